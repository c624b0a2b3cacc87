/- OperSteps at every value. -/
import Derived.Test.YtgljfgkkolfnbaaGreatDoorL9wz
import Derived.Test.YtgljfgkkolfnbaaGreatDoorJ4z
namespace Go.Proofs.YtgljfgkkolfnbaaGreatDoor
open Go.RowKit

theorem bin1_add {a b : Int} (v : IsV a b) (w : World) (hL : Lai w) : Calls Tryz.prog 18 #[.string ⟨#[43]⟩, Value.agg #[.int .i64 3, .int .i64 a, .int .i64 b, .bool false, .slice none 0 0, .slice none 0 0, .int .i64 0], Value.agg #[.int .i64 3, .int .i64 0, .int .i64 1, .bool false, .slice none 0 0, .slice none 0 0, .int .i64 0]] w (RetF (FJ (jA (addR a b 0 1)) (tA (addR a b 0 1))) w) :=
  bj_add_NN w (Lib.hid hL) (Lib.hid (nv_num w v)) (Lib.hid rfl) (fun _ e => by cases e) (Lib.hid (nv_num w (isV_w (by decide) (by decide)))) (Lib.hid rfl) (fun _ e => by cases e) rfl (FJ.stab _ _) (fun w1 _ => nums_add_J _ _ _ _ (add_V _ _ _ _) w1)
theorem bin1_sub {a b : Int} (v : IsV a b) (w : World) (hL : Lai w) : Calls Tryz.prog 18 #[.string ⟨#[45]⟩, Value.agg #[.int .i64 3, .int .i64 a, .int .i64 b, .bool false, .slice none 0 0, .slice none 0 0, .int .i64 0], Value.agg #[.int .i64 3, .int .i64 0, .int .i64 1, .bool false, .slice none 0 0, .slice none 0 0, .int .i64 0]] w (RetF (FJ (jA (addR a b 0 (-1))) (tA (addR a b 0 (-1)))) w) :=
  bj_sub_NN w (Lib.hid hL) (Lib.hid (nv_num w v)) (Lib.hid rfl) (fun _ e => by cases e) (Lib.hid (nv_num w (isV_w (by decide) (by decide)))) (Lib.hid rfl) (fun _ e => by cases e) (FJ.stab _ _) (fun w1 _ => nums_sub_J a b 0 1 (add_V _ _ _ _) w1)
theorem big1_add {g1 : Bool} {A1 : Option Addr} {xs1 : List Nat} {n1 c1 : Nat} {z : Int} {D : Option Addr} {kd : Nat} (w : World) (hL : Lai w) (h : BgV g1 A1 xs1 n1 c1 z w) (hd : Ar .u32 4294967296 w D [1] 1 kd) : Calls Tryz.prog 18 #[.string ⟨#[43]⟩, Value.agg #[.int .i64 4, .int .i64 0, .int .i64 0, .bool g1, .slice A1 n1 c1, .slice none 0 0, .int .i64 0], Value.agg #[.int .i64 4, .int .i64 0, .int .i64 0, .bool false, .slice D 1 kd, .slice none 0 0, .int .i64 0]] w (RetF (FJ (jB (z + 1)) (tB (z + 1))) w) :=
  bj_add_BB w (Lib.hid hL) (Lib.hid h.nv) (Lib.hid (nv_big hd (by decide))) rfl (FJ.stab _ _) (fun _ _ _ _ _ _ _ _ _ _ w1 _ h1 h2 => bigs_add_J w1 h1 h2)
theorem big1_sub {g1 : Bool} {A1 : Option Addr} {xs1 : List Nat} {n1 c1 : Nat} {z : Int} {D : Option Addr} {kd : Nat} (w : World) (hL : Lai w) (h : BgV g1 A1 xs1 n1 c1 z w) (hd : Ar .u32 4294967296 w D [1] 1 kd) : Calls Tryz.prog 18 #[.string ⟨#[45]⟩, Value.agg #[.int .i64 4, .int .i64 0, .int .i64 0, .bool g1, .slice A1 n1 c1, .slice none 0 0, .int .i64 0], Value.agg #[.int .i64 4, .int .i64 0, .int .i64 0, .bool false, .slice D 1 kd, .slice none 0 0, .int .i64 0]] w (RetF (FJ (jB (z + -1)) (tB (z + -1))) w) :=
  bj_sub_BB w (Lib.hid hL) (Lib.hid h.nv) (Lib.hid (nv_big hd (by decide))) (FJ.stab _ _) (fun _ _ _ _ _ _ _ _ _ _ w1 _ h1 h2 => bigs_sub_J w1 h1 h2)
theorem opsteps_w {k p q : Int} {g : Bool} {A C : Option Addr} {xs us : List Nat} {n c m d : Nat} {r : Int} (w : World) (hL : Lai w) (h : VM w A xs n c C us m d) : Calls Tryz.prog 9 #[Value.agg #[.int .i64 k, .int .i64 p, .int .i64 q, .bool g, .slice A n c, .slice C m d, .int .i64 r]] w fun e w' => e = .returned (.bool true) ∧ Plus w w' := by
  by_cases hf : fewB m n = true
  · obtain ⟨u, hn, hv⟩ := nrm k p q g A C xs us n c m d r w h (by have := few_of hf; omega)
    have hV := numJ_V hn.ok
    generalize jv k p q g xs us r = x at hn hV
    by_cases hb : ∃ z, x = .big z
    · obtain ⟨z, rfl⟩ := hb
      refine os_B (j1 := jB (z + 1)) (j2 := jB (z + -1)) (t1 := tB (z + 1)) (t2 := tB (z + -1)) w (Lib.hid hL) (Lib.hid hf) (Lib.hid hn) (Lib.hid hv) ?_ ?_ ?_ ?_ ?_
      · exact fun w1 hp => step_Bp w1 (Lib.hid (hn.plus hp)) (Lib.hid (hv.plus hp)) (Lib.hid (ofN_q (by decide) (by decide))) (FJ.stab _ _) (fun _ _ _ _ _ _ _ _ _ _ w2 _ h1 h2 => bigs_add_J w2 h1 h2)
      · exact fun w1 hp => step_Bm w1 (Lib.hid (hn.plus hp)) (Lib.hid (hv.plus hp)) (Lib.hid (ofN_q (by decide) (by decide))) (FJ.stab _ _) (fun _ _ _ _ _ _ _ _ _ _ w2 _ h1 h2 => bigs_add_J w2 h1 h2)
      · exact fun w1 hp => step_nB w1 (Lib.hid (hn.plus hp)) (Lib.hid (hv.plus hp)) (by decide) (by decide)
      · exact fun _ _ _ _ _ _ _ w1 hp h1 h2 => big1_add w1 (hL.plus hp) h1 h2
      · exact fun _ _ _ _ _ _ _ w1 hp h1 h2 => big1_sub w1 (hL.plus hp) h1 h2
    · have nb : ∀ z, x ≠ .big z := fun z e => hb ⟨z, e⟩
      obtain ⟨a, b, s, hJ⟩ : ∃ a b s, numJ x = ⟨a, b, s⟩ := ⟨_, _, _, rfl⟩
      rw [hJ] at hV
      simp only at hV
      by_cases hs : s = 0
      · subst hs
        refine os_N (j1 := jA (addR a b 0 1)) (j2 := jA (addR a b 0 (-1))) (t1 := tA (addR a b 0 1)) (t2 := tA (addR a b 0 (-1))) w (Lib.hid hL) (Lib.hid hf) (Lib.hid hn) (Lib.hid hv) (Lib.hid hJ) nb ?_ ?_ ?_ ?_ ?_
        · exact fun w1 hp => step_Np w1 (Lib.hid (hL.plus hp)) (Lib.hid (hn.plus hp)) (Lib.hid (hv.plus hp)) (Lib.hid hJ) nb (FJ.stab _ _) (fun w2 _ => nums_add_J _ _ _ _ (add_V _ _ _ _) w2)
        · exact fun w1 hp => step_Nm w1 (Lib.hid (hL.plus hp)) (Lib.hid (hn.plus hp)) (Lib.hid (hv.plus hp)) (Lib.hid hJ) nb (FJ.stab _ _) (fun w2 _ => nums_add_J _ _ _ _ (add_V _ _ _ _) w2)
        · exact fun w1 hp => step_nN w1 (Lib.hid (hL.plus hp)) (Lib.hid (hn.plus hp)) (Lib.hid (hv.plus hp)) (Lib.hid hJ) nb (by decide) (by decide)
        · exact fun w1 hp => bin1_add hV w1 (hL.plus hp)
        · exact fun w1 hp => bin1_sub hV w1 (hL.plus hp)
      · exact os_s w (Lib.hid hL) (Lib.hid hf) (Lib.hid hn) (Lib.hid hv) (Lib.hid hJ) nb (by simp [hs])
  · exact os_f w (Lib.hid hL) (Lib.hid (by simpa using hf))
end Go.Proofs.YtgljfgkkolfnbaaGreatDoor
