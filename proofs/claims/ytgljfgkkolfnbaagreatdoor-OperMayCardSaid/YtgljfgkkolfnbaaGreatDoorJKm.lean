/- Contracts: few; May of what may be. What sums and the like tell, valid. oper: Binary of any two values: sums, bits. What products and the like tell, valid; the classes of a value. oper: Binary of any two values: what may be told. oper: Binary of any two values: strict ones, no operator; Unary. -/
import Derived.Test.YtgljfgkkolfnbaaGreatDoorOA
import Derived.Test.YtgljfgkkolfnbaaGreatDoorOJm
import Derived.Test.YtgljfgkkolfnbaaGreatDoorO8z
import Derived.Test.YtgljfgkkolfnbaaGreatDoorO14az
import Derived.Test.YtgljfgkkolfnbaaGreatDoorO14cz
import Derived.Test.YtgljfgkkolfnbaaGreatDoorOE
namespace Go.Proofs.YtgljfgkkolfnbaaGreatDoor
open Go.RowKit

set_option maxRecDepth 100000 in
set_option maxHeartbeats 4000000 in
theorem few3_n1 {op : ByteArray} {ka pa qa : Int} {ga : Bool} {Aa Ca : Option Addr} {na ca ma da : Nat} {ra : Int} {kb pb qb : Int} {gb : Bool} {Ab Cb : Option Addr} {nb cb mb db : Nat} {rb : Int} (w : World) (h1 : ¬ (op.size ≤ 100)) : Calls Tryz.prog 11 #[.string op, Value.agg #[.int .i64 ka, .int .i64 pa, .int .i64 qa, .bool ga, .slice Aa na ca, .slice Ca ma da, .int .i64 ra], Value.agg #[.int .i64 kb, .int .i64 pb, .int .i64 qb, .bool gb, .slice Ab nb cb, .slice Cb mb db, .int .i64 rb]] w (fun e w' => e = .returned (.bool false) ∧ Plus w w') := by
  go_enter Tryz.func11, Tryz.ntmps11
  go_wp2_with fail
  go_returns
  exact ⟨rfl, (by repeat' (first | exact Plus.refl _ | refine Plus.alloc ?_ _ | refine Plus.plus ?_ _ | refine Plus.drew ?_ | refine Plus.drewN ?_ _))⟩
set_option maxRecDepth 100000 in
set_option maxHeartbeats 4000000 in
theorem few3_n2 {op : ByteArray} {ka pa qa : Int} {ga : Bool} {Aa Ca : Option Addr} {na ca ma da : Nat} {ra : Int} {kb pb qb : Int} {gb : Bool} {Ab Cb : Option Addr} {nb cb mb db : Nat} {rb : Int} (w : World) (h1 : op.size ≤ 100) (h2 : Hid (fewB ma na = false)) : Calls Tryz.prog 11 #[.string op, Value.agg #[.int .i64 ka, .int .i64 pa, .int .i64 qa, .bool ga, .slice Aa na ca, .slice Ca ma da, .int .i64 ra], Value.agg #[.int .i64 kb, .int .i64 pb, .int .i64 qb, .bool gb, .slice Ab nb cb, .slice Cb mb db, .int .i64 rb]] w (fun e w' => e = .returned (.bool false) ∧ Plus w w') := by
  go_enter Tryz.func11, Tryz.ntmps11
  go_wp2_with (go_at_call_of 26 (Value.agg #[.int .i64 ka, .int .i64 pa, .int .i64 qa, .bool ga, .slice Aa na ca, .slice Ca ma da, .int .i64 ra]); (with_reducible refine (few_v h2 _).mono ?_); rintro e w1 ⟨rfl, ⟨xa, rfl⟩⟩)
  go_returns
  exact ⟨rfl, (by repeat' (first | exact Plus.refl _ | refine Plus.alloc ?_ _ | refine Plus.plus ?_ _ | refine Plus.drew ?_ | refine Plus.drewN ?_ _))⟩
set_option maxRecDepth 100000 in
set_option maxHeartbeats 4000000 in
theorem few3_n3 {op : ByteArray} {ka pa qa : Int} {ga : Bool} {Aa Ca : Option Addr} {na ca ma da : Nat} {ra : Int} {kb pb qb : Int} {gb : Bool} {Ab Cb : Option Addr} {nb cb mb db : Nat} {rb : Int} (w : World) (h1 : op.size ≤ 100) (h2 : Hid (fewB ma na = true)) (h3 : Hid (fewB mb nb = false)) : Calls Tryz.prog 11 #[.string op, Value.agg #[.int .i64 ka, .int .i64 pa, .int .i64 qa, .bool ga, .slice Aa na ca, .slice Ca ma da, .int .i64 ra], Value.agg #[.int .i64 kb, .int .i64 pb, .int .i64 qb, .bool gb, .slice Ab nb cb, .slice Cb mb db, .int .i64 rb]] w (fun e w' => e = .returned (.bool false) ∧ Plus w w') := by
  go_enter Tryz.func11, Tryz.ntmps11
  go_wp2_with (first | (go_at_call_of 26 (Value.agg #[.int .i64 ka, .int .i64 pa, .int .i64 qa, .bool ga, .slice Aa na ca, .slice Ca ma da, .int .i64 ra]); (with_reducible refine (few_v h2 _).mono ?_); rintro e w1 ⟨rfl, ⟨xa, rfl⟩⟩) | (go_at_call_of 26 (Value.agg #[.int .i64 kb, .int .i64 pb, .int .i64 qb, .bool gb, .slice Ab nb cb, .slice Cb mb db, .int .i64 rb]); (with_reducible refine (few_v h3 _).mono ?_); rintro e w1 ⟨rfl, ⟨xb, rfl⟩⟩))
  go_returns
  exact ⟨rfl, (by repeat' (first | exact Plus.refl _ | refine Plus.alloc ?_ _ | refine Plus.plus ?_ _ | refine Plus.drew ?_ | refine Plus.drewN ?_ _))⟩
set_option maxRecDepth 100000 in
set_option maxHeartbeats 4000000 in
theorem few3_y {op : ByteArray} {ka pa qa : Int} {ga : Bool} {Aa Ca : Option Addr} {na ca ma da : Nat} {ra : Int} {kb pb qb : Int} {gb : Bool} {Ab Cb : Option Addr} {nb cb mb db : Nat} {rb : Int} (w : World) (h1 : op.size ≤ 100) (h2 : Hid (fewB ma na = true)) (h3 : Hid (fewB mb nb = true)) : Calls Tryz.prog 11 #[.string op, Value.agg #[.int .i64 ka, .int .i64 pa, .int .i64 qa, .bool ga, .slice Aa na ca, .slice Ca ma da, .int .i64 ra], Value.agg #[.int .i64 kb, .int .i64 pb, .int .i64 qb, .bool gb, .slice Ab nb cb, .slice Cb mb db, .int .i64 rb]] w (fun e w' => e = .returned (.bool true) ∧ Plus w w') := by
  go_enter Tryz.func11, Tryz.ntmps11
  go_wp2_with (first | (go_at_call_of 26 (Value.agg #[.int .i64 ka, .int .i64 pa, .int .i64 qa, .bool ga, .slice Aa na ca, .slice Ca ma da, .int .i64 ra]); (with_reducible refine (few_v h2 _).mono ?_); rintro e w1 ⟨rfl, ⟨xa, rfl⟩⟩) | (go_at_call_of 26 (Value.agg #[.int .i64 kb, .int .i64 pb, .int .i64 qb, .bool gb, .slice Ab nb cb, .slice Cb mb db, .int .i64 rb]); (with_reducible refine (few_v h3 _).mono ?_); rintro e w1 ⟨rfl, ⟨xb, rfl⟩⟩))
  go_returns
  exact ⟨rfl, (by repeat' (first | exact Plus.refl _ | refine Plus.alloc ?_ _ | refine Plus.plus ?_ _ | refine Plus.drew ?_ | refine Plus.drewN ?_ _))⟩
theorem few3_v {op : ByteArray} {ka pa qa : Int} {ga : Bool} {Aa Ca : Option Addr} {na ca ma da : Nat} {ra : Int} {kb pb qb : Int} {gb : Bool} {Ab Cb : Option Addr} {nb cb mb db : Nat} {rb : Int} {z : Bool} (hz : Hid ((decide (op.size ≤ 100) && fewB ma na && fewB mb nb) = z)) (w : World) : Calls Tryz.prog 11 #[.string op, Value.agg #[.int .i64 ka, .int .i64 pa, .int .i64 qa, .bool ga, .slice Aa na ca, .slice Ca ma da, .int .i64 ra], Value.agg #[.int .i64 kb, .int .i64 pb, .int .i64 qb, .bool gb, .slice Ab nb cb, .slice Cb mb db, .int .i64 rb]] w (fun e w' => e = .returned (.bool z) ∧ Plus w w') := by
  obtain rfl := hz.out
  by_cases h1 : op.size ≤ 100
  · cases h2 : fewB ma na
    · simpa [h1, h2] using few3_n2 w h1 (Lib.hid h2)
    · cases h3 : fewB mb nb
      · simpa [h1, h2, h3] using few3_n3 w h1 (Lib.hid h2) (Lib.hid h3)
      · simpa [h1, h2, h3] using few3_y w h1 (Lib.hid h2) (Lib.hid h3)
  · simpa [h1] using few3_n1 w h1
theorem hmay_j {k p q : Int} {g : Bool} {A C : Option Addr} {n c m d : Nat} {r : Int} {x : JV} (w : World) (h : NV w (Value.agg #[.int .i64 k, .int .i64 p, .int .i64 q, .bool g, .slice A n c, .slice C m d, .int .i64 r]) x) : Calls Tryz.prog 19 #[Value.agg #[.int .i64 k, .int .i64 p, .int .i64 q, .bool g, .slice A n c, .slice C m d, .int .i64 r]] w (fun e w' => e = .returned (.bool true) ∧ Plus w w') := by
  obtain ⟨k2, p2, q2, g2, A2, C2, xs2, us2, n2, c2, m2, d2, r2, e, hm, hf, _, hv⟩ := h.gen
  rw [e]
  exact hmay_v (Lib.hid hv) w hm hf
end Go.Proofs.YtgljfgkkolfnbaaGreatDoor

namespace Go.Proofs.YtgljfgkkolfnbaaGreatDoor
open Go.RowKit

theorem add_V (a b c d : Int) : IsV (addR a b c d).k (addR a b c d).n := by
  have h1 := isV_v a b
  have h2 := isV_v c d
  unfold addR
  generalize vk a b = p at h1 ⊢
  generalize vn a b = q at h1 ⊢
  generalize vk c d = r at h2 ⊢
  generalize vn c d = s at h2 ⊢
  unfold addS
  repeat' split
  all_goals first
    | exact ofS_V _
    | exact .inl ⟨rfl, by decide, by decide⟩
    | exact .inr (.inl ⟨rfl, rfl⟩)
    | exact .inr (.inr (.inl ⟨rfl, rfl⟩))
    | exact h1
    | exact h2
    | (rcases h1 with ⟨rfl, _, _⟩ | ⟨rfl, rfl⟩ | ⟨rfl, rfl⟩ | ⟨rfl, rfl⟩ | ⟨rfl, rfl⟩ <;> rcases h2 with ⟨rfl, _, _⟩ | ⟨rfl, rfl⟩ | ⟨rfl, rfl⟩ | ⟨rfl, rfl⟩ | ⟨rfl, rfl⟩ <;> first | exact ofS_V _ | (unfold IsV; simp_all; done) | (unfold IsV; simp_all; omega))
/-- A number, if it is told. -/
def jA (r : Ans) : JV := if r.ok = true then .num r.k r.n else .undef
def tA (r : Ans) : Int := if r.ok = true then 0 else 3
def jB (z : Int) : JV := if z.natAbs < Bg.B ^ 8 then .big z else .undef
def tB (z : Int) : Int := if z.natAbs < Bg.B ^ 8 then 0 else 3
theorem retF_num {x y : Int} {w : World} {e : Ending} {w' : World} (v : IsV x y) (h : e = .returned (.tuple #[Value.agg #[.int .i64 3, .int .i64 x, .int .i64 y, .bool false, .slice none 0 0, .slice none 0 0, .int .i64 0], .int .i64 0]) ∧ Plus w w') : RetF (FJ (.num x y) 0) w e w' :=
  ⟨3, x, y, false, none, none, 0, 0, 0, 0, 0, 0, h.1, ⟨nv_num _ v, rfl⟩, h.2⟩
theorem nv_nil (w : World) : NV w (Value.agg #[.int .i64 0, .int .i64 0, .int .i64 0, .bool false, .slice none 0 0, .slice none 0 0, .int .i64 0]) .undef := ⟨none, none, 0, 0, rfl, by omega, by omega⟩
theorem retF_nil {s : Int} {w : World} {e : Ending} {w' : World} (h : e = .returned (.tuple #[Value.agg #[.int .i64 0, .int .i64 0, .int .i64 0, .bool false, .slice none 0 0, .slice none 0 0, .int .i64 0], .int .i64 s]) ∧ Plus w w') : RetF (FJ .undef s) w e w' :=
  ⟨0, 0, 0, false, none, none, 0, 0, 0, 0, 0, s, h.1, ⟨nv_nil _, rfl⟩, h.2⟩
theorem nums_add_J (a b a2 b2 : Int) (hv : IsV (addR a b a2 b2).k (addR a b a2 b2).n) (w : World) : Calls Tryz.prog 49 #[.string ⟨#[43]⟩, .agg #[.int .i64 a, .int .i64 b], .agg #[.int .i64 a2, .int .i64 b2]] w (RetF (FJ (jA (addR a b a2 b2)) (tA (addR a b a2 b2))) w) := by
  obtain ⟨x, y, o, h⟩ : ∃ x y o, addR a b a2 b2 = ⟨x, y, o⟩ := ⟨_, _, _, rfl⟩
  rw [h] at hv ⊢
  cases o
  · exact (nums_add_n w (Lib.hid h)).mono fun _ _ h => retF_nil h
  · exact (nums_add_y w (Lib.hid h)).mono fun _ _ h => retF_num hv h
theorem nums_sub_J (a b a2 b2 : Int) (hv : IsV (subR a b a2 b2).k (subR a b a2 b2).n) (w : World) : Calls Tryz.prog 49 #[.string ⟨#[45]⟩, .agg #[.int .i64 a, .int .i64 b], .agg #[.int .i64 a2, .int .i64 b2]] w (RetF (FJ (jA (subR a b a2 b2)) (tA (subR a b a2 b2))) w) := by
  obtain ⟨x, y, o, h⟩ : ∃ x y o, subR a b a2 b2 = ⟨x, y, o⟩ := ⟨_, _, _, rfl⟩
  rw [h] at hv ⊢
  cases o
  · exact (nums_sub_n w (Lib.hid h)).mono fun _ _ h => retF_nil h
  · exact (nums_sub_y w (Lib.hid h)).mono fun _ _ h => retF_num hv h
theorem bigs_add_J {ga gb : Bool} {Aa Ab : Option Addr} {xsa xsb : List Nat} {na ca nb cb : Nat} {za zb : Int} (w : World) (h1 : BgV ga Aa xsa na ca za w) (h2 : BgV gb Ab xsb nb cb zb w) : Calls Tryz.prog 47 #[.string ⟨#[43]⟩, .agg #[.bool ga, .slice Aa na ca], .agg #[.bool gb, .slice Ab nb cb]] w (RetF (FJ (jB (za + zb)) (tB (za + zb))) w) := by
  unfold jB tB
  by_cases h : (za + zb).natAbs < Bg.B ^ 8
  · rw [if_pos h, if_pos h]
    exact (bigs_add_y w (Lib.hid h1) (Lib.hid h2) (Lib.hid ⟨Bg.Nm.mk' h, by simp [h], by rw [if_pos h]⟩)).mono fun _ _ h => h.f
  · rw [if_neg h, if_neg h]
    exact (bigs_add_n w (Lib.hid h1) (Lib.hid h2) (Lib.hid ⟨nm0, by simp [h], by rw [if_neg h]⟩)).mono fun _ _ h => retF_nil h
theorem bigs_sub_J {ga gb : Bool} {Aa Ab : Option Addr} {xsa xsb : List Nat} {na ca nb cb : Nat} {za zb : Int} (w : World) (h1 : BgV ga Aa xsa na ca za w) (h2 : BgV gb Ab xsb nb cb zb w) : Calls Tryz.prog 47 #[.string ⟨#[45]⟩, .agg #[.bool ga, .slice Aa na ca], .agg #[.bool gb, .slice Ab nb cb]] w (RetF (FJ (jB (za - zb)) (tB (za - zb))) w) := by
  unfold jB tB
  by_cases h : (za - zb).natAbs < Bg.B ^ 8
  · rw [if_pos h, if_pos h]
    exact (bigs_sub_y w (Lib.hid h1) (Lib.hid h2) (Lib.hid ⟨Bg.Nm.mk' h, by simp [h], by rw [if_pos h]⟩)).mono fun _ _ h => h.f
  · rw [if_neg h, if_neg h]
    exact (bigs_sub_n w (Lib.hid h1) (Lib.hid h2) (Lib.hid ⟨nm0, by simp [h], by rw [if_neg h]⟩)).mono fun _ _ h => retF_nil h
end Go.Proofs.YtgljfgkkolfnbaaGreatDoor

namespace Go.Proofs.YtgljfgkkolfnbaaGreatDoor
open Go.RowKit
variable {k8 p8 q8 : Int} {g8 : Bool} {A8 C8 : Option Addr} {n8 c8 m8 d8 : Nat} {r8 : Int}
variable {k7 p7 q7 : Int} {g7 : Bool} {A7 C7 : Option Addr} {n7 c7 m7 d7 : Nat} {r7 : Int}
variable {ka pa qa : Int} {ga : Bool} {Aa Ca : Option Addr} {na ca ma da : Nat} {ra : Int}
variable {kb pb qb : Int} {gb : Bool} {Ab Cb : Option Addr} {nb cb mb db : Nat} {rb : Int}

def VV (k p q : Int) (g : Bool) (A C : Option Addr) (n c m d : Nat) (r : Int) : Value := Value.agg #[.int .i64 k, .int .i64 p, .int .i64 q, .bool g, .slice A n c, .slice C m d, .int .i64 r]
theorem bk_add_SX {xa : JV} {aa ba sa : Int} (w : World) (hL : Hid (Lai w)) (hva : Hid (Vldo w (VV k8 p8 q8 g8 A8 C8 n8 c8 m8 d8 r8) (VV ka pa qa ga Aa Ca na ca ma da ra))) (hvb : Hid (Vldo w (VV k7 p7 q7 g7 A7 C7 n7 c7 m7 d7 r7) (VV kb pb qb gb Ab Cb nb cb mb db rb))) (hxa : Hid (NV w (VV ka pa qa ga Aa Ca na ca ma da ra) xa)) (hJa : Hid (numJ xa = ⟨aa, ba, sa⟩)) (nba : ∀ z, xa ≠ .big z) (hsa : (sa != 0) = true) (he : ((ka == 5) || (kb == 5)) = false) : Calls Tryz.prog 18 #[.string ⟨#[43]⟩, VV k8 p8 q8 g8 A8 C8 n8 c8 m8 d8 r8, VV k7 p7 q7 g7 A7 C7 n7 c7 m7 d7 r7] w (RetF (FJ .undef sa) w) :=
  bin_add w hva hvb (FJ.stab _ _) (fun w0 h0 => plus_a w0 (FJ.stab _ _) he (fun w1 h1 => (arith_SX w1 (Lib.hid (hL.out.plus (h0.trans h1))) (Lib.hid (hxa.out.plus (h0.trans h1))) hJa nba hsa).mono (fun _ _ h => retF_nil h)))
theorem bk_add_NS {xa : JV} {aa ba : Int} {xb : JV} {ab bb sb : Int} (w : World) (hL : Hid (Lai w)) (hva : Hid (Vldo w (VV k8 p8 q8 g8 A8 C8 n8 c8 m8 d8 r8) (VV ka pa qa ga Aa Ca na ca ma da ra))) (hvb : Hid (Vldo w (VV k7 p7 q7 g7 A7 C7 n7 c7 m7 d7 r7) (VV kb pb qb gb Ab Cb nb cb mb db rb))) (hxa : Hid (NV w (VV ka pa qa ga Aa Ca na ca ma da ra) xa)) (hJa : Hid (numJ xa = ⟨aa, ba, 0⟩)) (nba : ∀ z, xa ≠ .big z) (hxb : Hid (NV w (VV kb pb qb gb Ab Cb nb cb mb db rb) xb)) (hJb : Hid (numJ xb = ⟨ab, bb, sb⟩)) (nbb : ∀ z, xb ≠ .big z) (hsb : (sb != 0) = true) (he : ((ka == 5) || (kb == 5)) = false) : Calls Tryz.prog 18 #[.string ⟨#[43]⟩, VV k8 p8 q8 g8 A8 C8 n8 c8 m8 d8 r8, VV k7 p7 q7 g7 A7 C7 n7 c7 m7 d7 r7] w (RetF (FJ .undef sb) w) :=
  bin_add w hva hvb (FJ.stab _ _) (fun w0 h0 => plus_a w0 (FJ.stab _ _) he (fun w1 h1 => (arith_NS w1 (Lib.hid (hL.out.plus (h0.trans h1))) (Lib.hid (hxa.out.plus (h0.trans h1))) hJa nba (Lib.hid (hxb.out.plus (h0.trans h1))) hJb nbb hsb).mono (fun _ _ h => retF_nil h)))
theorem bk_add_BS {za : Int} {xb : JV} {ab bb sb : Int} (w : World) (hL : Hid (Lai w)) (hva : Hid (Vldo w (VV k8 p8 q8 g8 A8 C8 n8 c8 m8 d8 r8) (VV ka pa qa ga Aa Ca na ca ma da ra))) (hvb : Hid (Vldo w (VV k7 p7 q7 g7 A7 C7 n7 c7 m7 d7 r7) (VV kb pb qb gb Ab Cb nb cb mb db rb))) (hxa : Hid (NV w (VV ka pa qa ga Aa Ca na ca ma da ra) (.big za))) (hxb : Hid (NV w (VV kb pb qb gb Ab Cb nb cb mb db rb) xb)) (hJb : Hid (numJ xb = ⟨ab, bb, sb⟩)) (nbb : ∀ z, xb ≠ .big z) (hsb : (sb != 0) = true) (he : ((ka == 5) || (kb == 5)) = false) : Calls Tryz.prog 18 #[.string ⟨#[43]⟩, VV k8 p8 q8 g8 A8 C8 n8 c8 m8 d8 r8, VV k7 p7 q7 g7 A7 C7 n7 c7 m7 d7 r7] w (RetF (FJ .undef sb) w) :=
  bin_add w hva hvb (FJ.stab _ _) (fun w0 h0 => plus_a w0 (FJ.stab _ _) he (fun w1 h1 => (arith_BS w1 (Lib.hid (hL.out.plus (h0.trans h1))) (Lib.hid (hxa.out.plus (h0.trans h1))) (Lib.hid (hxb.out.plus (h0.trans h1))) hJb nbb hsb).mono (fun _ _ h => retF_nil h)))
theorem bk_add_NN {xa : JV} {aa ba : Int} {xb : JV} {ab bb : Int} (w : World) (hL : Hid (Lai w)) (hva : Hid (Vldo w (VV k8 p8 q8 g8 A8 C8 n8 c8 m8 d8 r8) (VV ka pa qa ga Aa Ca na ca ma da ra))) (hvb : Hid (Vldo w (VV k7 p7 q7 g7 A7 C7 n7 c7 m7 d7 r7) (VV kb pb qb gb Ab Cb nb cb mb db rb))) (hxa : Hid (NV w (VV ka pa qa ga Aa Ca na ca ma da ra) xa)) (hJa : Hid (numJ xa = ⟨aa, ba, 0⟩)) (nba : ∀ z, xa ≠ .big z) (hxb : Hid (NV w (VV kb pb qb gb Ab Cb nb cb mb db rb) xb)) (hJb : Hid (numJ xb = ⟨ab, bb, 0⟩)) (nbb : ∀ z, xb ≠ .big z) (he : ((ka == 5) || (kb == 5)) = false) {F : Value → Int → World → Prop} (hS : Stab F) (HN : ∀ w1, Plus w w1 → Calls Tryz.prog 49 #[.string ⟨#[43]⟩, .agg #[.int .i64 aa, .int .i64 ba], .agg #[.int .i64 ab, .int .i64 bb]] w1 (RetF F w1)) : Calls Tryz.prog 18 #[.string ⟨#[43]⟩, VV k8 p8 q8 g8 A8 C8 n8 c8 m8 d8 r8, VV k7 p7 q7 g7 A7 C7 n7 c7 m7 d7 r7] w (RetF F w) :=
  bin_add w hva hvb (hS) (fun w0 h0 => plus_a w0 (hS) he (fun w1 h1 => arith_NN w1 (Lib.hid (hL.out.plus (h0.trans h1))) (Lib.hid (hxa.out.plus (h0.trans h1))) hJa nba (Lib.hid (hxb.out.plus (h0.trans h1))) hJb nbb hS (fun w2 h2 => HN w2 ((h0.trans h1).trans h2))))
theorem bk_add_NB {xa : JV} {aa ba : Int} {zb : Int} (w : World) (hL : Hid (Lai w)) (hva : Hid (Vldo w (VV k8 p8 q8 g8 A8 C8 n8 c8 m8 d8 r8) (VV ka pa qa ga Aa Ca na ca ma da ra))) (hvb : Hid (Vldo w (VV k7 p7 q7 g7 A7 C7 n7 c7 m7 d7 r7) (VV kb pb qb gb Ab Cb nb cb mb db rb))) (hxa : Hid (NV w (VV ka pa qa ga Aa Ca na ca ma da ra) xa)) (hJa : Hid (numJ xa = ⟨aa, ba, 0⟩)) (nba : ∀ z, xa ≠ .big z) (hxb : Hid (NV w (VV kb pb qb gb Ab Cb nb cb mb db rb) (.big zb))) (he : ((ka == 5) || (kb == 5)) = false) : Calls Tryz.prog 18 #[.string ⟨#[43]⟩, VV k8 p8 q8 g8 A8 C8 n8 c8 m8 d8 r8, VV k7 p7 q7 g7 A7 C7 n7 c7 m7 d7 r7] w (RetF (FJ .undef 1) w) :=
  bin_add w hva hvb (FJ.stab _ _) (fun w0 h0 => plus_a w0 (FJ.stab _ _) he (fun w1 h1 => (arith_NB w1 (Lib.hid (hL.out.plus (h0.trans h1))) (Lib.hid (hxa.out.plus (h0.trans h1))) hJa nba (Lib.hid (hxb.out.plus (h0.trans h1)))).mono (fun _ _ h => retF_nil h)))
theorem bk_add_BN {za : Int} {xb : JV} {ab bb : Int} (w : World) (hL : Hid (Lai w)) (hva : Hid (Vldo w (VV k8 p8 q8 g8 A8 C8 n8 c8 m8 d8 r8) (VV ka pa qa ga Aa Ca na ca ma da ra))) (hvb : Hid (Vldo w (VV k7 p7 q7 g7 A7 C7 n7 c7 m7 d7 r7) (VV kb pb qb gb Ab Cb nb cb mb db rb))) (hxa : Hid (NV w (VV ka pa qa ga Aa Ca na ca ma da ra) (.big za))) (hxb : Hid (NV w (VV kb pb qb gb Ab Cb nb cb mb db rb) xb)) (hJb : Hid (numJ xb = ⟨ab, bb, 0⟩)) (nbb : ∀ z, xb ≠ .big z) (he : ((ka == 5) || (kb == 5)) = false) : Calls Tryz.prog 18 #[.string ⟨#[43]⟩, VV k8 p8 q8 g8 A8 C8 n8 c8 m8 d8 r8, VV k7 p7 q7 g7 A7 C7 n7 c7 m7 d7 r7] w (RetF (FJ .undef 1) w) :=
  bin_add w hva hvb (FJ.stab _ _) (fun w0 h0 => plus_a w0 (FJ.stab _ _) he (fun w1 h1 => (arith_BN w1 (Lib.hid (hL.out.plus (h0.trans h1))) (Lib.hid (hxa.out.plus (h0.trans h1))) (Lib.hid (hxb.out.plus (h0.trans h1))) hJb nbb).mono (fun _ _ h => retF_nil h)))
theorem bk_add_BB {za : Int} {zb : Int} (w : World) (hL : Hid (Lai w)) (hva : Hid (Vldo w (VV k8 p8 q8 g8 A8 C8 n8 c8 m8 d8 r8) (VV ka pa qa ga Aa Ca na ca ma da ra))) (hvb : Hid (Vldo w (VV k7 p7 q7 g7 A7 C7 n7 c7 m7 d7 r7) (VV kb pb qb gb Ab Cb nb cb mb db rb))) (hxa : Hid (NV w (VV ka pa qa ga Aa Ca na ca ma da ra) (.big za))) (hxb : Hid (NV w (VV kb pb qb gb Ab Cb nb cb mb db rb) (.big zb))) (he : ((ka == 5) || (kb == 5)) = false) {F : Value → Int → World → Prop} (hS : Stab F) (HB : ∀ (g1 g2 : Bool) (A1 A2 : Option Addr) (xs1 xs2 : List Nat) (n1 c1 n2 c2 : Nat) (w1 : World), Plus w w1 → BgV g1 A1 xs1 n1 c1 za w1 → BgV g2 A2 xs2 n2 c2 zb w1 → Calls Tryz.prog 47 #[.string ⟨#[43]⟩, .agg #[.bool g1, .slice A1 n1 c1], .agg #[.bool g2, .slice A2 n2 c2]] w1 (RetF F w1)) : Calls Tryz.prog 18 #[.string ⟨#[43]⟩, VV k8 p8 q8 g8 A8 C8 n8 c8 m8 d8 r8, VV k7 p7 q7 g7 A7 C7 n7 c7 m7 d7 r7] w (RetF F w) :=
  bin_add w hva hvb (hS) (fun w0 h0 => plus_a w0 (hS) he (fun w1 h1 => arith_BB w1 (Lib.hid (hL.out.plus (h0.trans h1))) (Lib.hid (hxa.out.plus (h0.trans h1))) (Lib.hid (hxb.out.plus (h0.trans h1))) hS (fun _ _ _ _ _ _ _ _ _ _ w2 h2 => HB _ _ _ _ _ _ _ _ _ _ w2 ((h0.trans h1).trans h2))))
theorem bk_sub_SX {xa : JV} {aa ba sa : Int} (w : World) (hL : Hid (Lai w)) (hva : Hid (Vldo w (VV k8 p8 q8 g8 A8 C8 n8 c8 m8 d8 r8) (VV ka pa qa ga Aa Ca na ca ma da ra))) (hvb : Hid (Vldo w (VV k7 p7 q7 g7 A7 C7 n7 c7 m7 d7 r7) (VV kb pb qb gb Ab Cb nb cb mb db rb))) (hxa : Hid (NV w (VV ka pa qa ga Aa Ca na ca ma da ra) xa)) (hJa : Hid (numJ xa = ⟨aa, ba, sa⟩)) (nba : ∀ z, xa ≠ .big z) (hsa : (sa != 0) = true) : Calls Tryz.prog 18 #[.string ⟨#[45]⟩, VV k8 p8 q8 g8 A8 C8 n8 c8 m8 d8 r8, VV k7 p7 q7 g7 A7 C7 n7 c7 m7 d7 r7] w (RetF (FJ .undef sa) w) :=
  bin_sub w hva hvb (FJ.stab _ _) (fun w1 h1 => (arith_SX w1 (Lib.hid (hL.out.plus h1)) (Lib.hid (hxa.out.plus h1)) hJa nba hsa).mono (fun _ _ h => retF_nil h))
theorem bk_sub_NS {xa : JV} {aa ba : Int} {xb : JV} {ab bb sb : Int} (w : World) (hL : Hid (Lai w)) (hva : Hid (Vldo w (VV k8 p8 q8 g8 A8 C8 n8 c8 m8 d8 r8) (VV ka pa qa ga Aa Ca na ca ma da ra))) (hvb : Hid (Vldo w (VV k7 p7 q7 g7 A7 C7 n7 c7 m7 d7 r7) (VV kb pb qb gb Ab Cb nb cb mb db rb))) (hxa : Hid (NV w (VV ka pa qa ga Aa Ca na ca ma da ra) xa)) (hJa : Hid (numJ xa = ⟨aa, ba, 0⟩)) (nba : ∀ z, xa ≠ .big z) (hxb : Hid (NV w (VV kb pb qb gb Ab Cb nb cb mb db rb) xb)) (hJb : Hid (numJ xb = ⟨ab, bb, sb⟩)) (nbb : ∀ z, xb ≠ .big z) (hsb : (sb != 0) = true) : Calls Tryz.prog 18 #[.string ⟨#[45]⟩, VV k8 p8 q8 g8 A8 C8 n8 c8 m8 d8 r8, VV k7 p7 q7 g7 A7 C7 n7 c7 m7 d7 r7] w (RetF (FJ .undef sb) w) :=
  bin_sub w hva hvb (FJ.stab _ _) (fun w1 h1 => (arith_NS w1 (Lib.hid (hL.out.plus h1)) (Lib.hid (hxa.out.plus h1)) hJa nba (Lib.hid (hxb.out.plus h1)) hJb nbb hsb).mono (fun _ _ h => retF_nil h))
theorem bk_sub_BS {za : Int} {xb : JV} {ab bb sb : Int} (w : World) (hL : Hid (Lai w)) (hva : Hid (Vldo w (VV k8 p8 q8 g8 A8 C8 n8 c8 m8 d8 r8) (VV ka pa qa ga Aa Ca na ca ma da ra))) (hvb : Hid (Vldo w (VV k7 p7 q7 g7 A7 C7 n7 c7 m7 d7 r7) (VV kb pb qb gb Ab Cb nb cb mb db rb))) (hxa : Hid (NV w (VV ka pa qa ga Aa Ca na ca ma da ra) (.big za))) (hxb : Hid (NV w (VV kb pb qb gb Ab Cb nb cb mb db rb) xb)) (hJb : Hid (numJ xb = ⟨ab, bb, sb⟩)) (nbb : ∀ z, xb ≠ .big z) (hsb : (sb != 0) = true) : Calls Tryz.prog 18 #[.string ⟨#[45]⟩, VV k8 p8 q8 g8 A8 C8 n8 c8 m8 d8 r8, VV k7 p7 q7 g7 A7 C7 n7 c7 m7 d7 r7] w (RetF (FJ .undef sb) w) :=
  bin_sub w hva hvb (FJ.stab _ _) (fun w1 h1 => (arith_BS w1 (Lib.hid (hL.out.plus h1)) (Lib.hid (hxa.out.plus h1)) (Lib.hid (hxb.out.plus h1)) hJb nbb hsb).mono (fun _ _ h => retF_nil h))
theorem bk_sub_NN {xa : JV} {aa ba : Int} {xb : JV} {ab bb : Int} (w : World) (hL : Hid (Lai w)) (hva : Hid (Vldo w (VV k8 p8 q8 g8 A8 C8 n8 c8 m8 d8 r8) (VV ka pa qa ga Aa Ca na ca ma da ra))) (hvb : Hid (Vldo w (VV k7 p7 q7 g7 A7 C7 n7 c7 m7 d7 r7) (VV kb pb qb gb Ab Cb nb cb mb db rb))) (hxa : Hid (NV w (VV ka pa qa ga Aa Ca na ca ma da ra) xa)) (hJa : Hid (numJ xa = ⟨aa, ba, 0⟩)) (nba : ∀ z, xa ≠ .big z) (hxb : Hid (NV w (VV kb pb qb gb Ab Cb nb cb mb db rb) xb)) (hJb : Hid (numJ xb = ⟨ab, bb, 0⟩)) (nbb : ∀ z, xb ≠ .big z) {F : Value → Int → World → Prop} (hS : Stab F) (HN : ∀ w1, Plus w w1 → Calls Tryz.prog 49 #[.string ⟨#[45]⟩, .agg #[.int .i64 aa, .int .i64 ba], .agg #[.int .i64 ab, .int .i64 bb]] w1 (RetF F w1)) : Calls Tryz.prog 18 #[.string ⟨#[45]⟩, VV k8 p8 q8 g8 A8 C8 n8 c8 m8 d8 r8, VV k7 p7 q7 g7 A7 C7 n7 c7 m7 d7 r7] w (RetF F w) :=
  bin_sub w hva hvb (hS) (fun w1 h1 => arith_NN w1 (Lib.hid (hL.out.plus h1)) (Lib.hid (hxa.out.plus h1)) hJa nba (Lib.hid (hxb.out.plus h1)) hJb nbb hS (fun w2 h2 => HN w2 (h1.trans h2)))
theorem bk_sub_NB {xa : JV} {aa ba : Int} {zb : Int} (w : World) (hL : Hid (Lai w)) (hva : Hid (Vldo w (VV k8 p8 q8 g8 A8 C8 n8 c8 m8 d8 r8) (VV ka pa qa ga Aa Ca na ca ma da ra))) (hvb : Hid (Vldo w (VV k7 p7 q7 g7 A7 C7 n7 c7 m7 d7 r7) (VV kb pb qb gb Ab Cb nb cb mb db rb))) (hxa : Hid (NV w (VV ka pa qa ga Aa Ca na ca ma da ra) xa)) (hJa : Hid (numJ xa = ⟨aa, ba, 0⟩)) (nba : ∀ z, xa ≠ .big z) (hxb : Hid (NV w (VV kb pb qb gb Ab Cb nb cb mb db rb) (.big zb))) : Calls Tryz.prog 18 #[.string ⟨#[45]⟩, VV k8 p8 q8 g8 A8 C8 n8 c8 m8 d8 r8, VV k7 p7 q7 g7 A7 C7 n7 c7 m7 d7 r7] w (RetF (FJ .undef 1) w) :=
  bin_sub w hva hvb (FJ.stab _ _) (fun w1 h1 => (arith_NB w1 (Lib.hid (hL.out.plus h1)) (Lib.hid (hxa.out.plus h1)) hJa nba (Lib.hid (hxb.out.plus h1))).mono (fun _ _ h => retF_nil h))
theorem bk_sub_BN {za : Int} {xb : JV} {ab bb : Int} (w : World) (hL : Hid (Lai w)) (hva : Hid (Vldo w (VV k8 p8 q8 g8 A8 C8 n8 c8 m8 d8 r8) (VV ka pa qa ga Aa Ca na ca ma da ra))) (hvb : Hid (Vldo w (VV k7 p7 q7 g7 A7 C7 n7 c7 m7 d7 r7) (VV kb pb qb gb Ab Cb nb cb mb db rb))) (hxa : Hid (NV w (VV ka pa qa ga Aa Ca na ca ma da ra) (.big za))) (hxb : Hid (NV w (VV kb pb qb gb Ab Cb nb cb mb db rb) xb)) (hJb : Hid (numJ xb = ⟨ab, bb, 0⟩)) (nbb : ∀ z, xb ≠ .big z) : Calls Tryz.prog 18 #[.string ⟨#[45]⟩, VV k8 p8 q8 g8 A8 C8 n8 c8 m8 d8 r8, VV k7 p7 q7 g7 A7 C7 n7 c7 m7 d7 r7] w (RetF (FJ .undef 1) w) :=
  bin_sub w hva hvb (FJ.stab _ _) (fun w1 h1 => (arith_BN w1 (Lib.hid (hL.out.plus h1)) (Lib.hid (hxa.out.plus h1)) (Lib.hid (hxb.out.plus h1)) hJb nbb).mono (fun _ _ h => retF_nil h))
theorem bk_sub_BB {za : Int} {zb : Int} (w : World) (hL : Hid (Lai w)) (hva : Hid (Vldo w (VV k8 p8 q8 g8 A8 C8 n8 c8 m8 d8 r8) (VV ka pa qa ga Aa Ca na ca ma da ra))) (hvb : Hid (Vldo w (VV k7 p7 q7 g7 A7 C7 n7 c7 m7 d7 r7) (VV kb pb qb gb Ab Cb nb cb mb db rb))) (hxa : Hid (NV w (VV ka pa qa ga Aa Ca na ca ma da ra) (.big za))) (hxb : Hid (NV w (VV kb pb qb gb Ab Cb nb cb mb db rb) (.big zb))) {F : Value → Int → World → Prop} (hS : Stab F) (HB : ∀ (g1 g2 : Bool) (A1 A2 : Option Addr) (xs1 xs2 : List Nat) (n1 c1 n2 c2 : Nat) (w1 : World), Plus w w1 → BgV g1 A1 xs1 n1 c1 za w1 → BgV g2 A2 xs2 n2 c2 zb w1 → Calls Tryz.prog 47 #[.string ⟨#[45]⟩, .agg #[.bool g1, .slice A1 n1 c1], .agg #[.bool g2, .slice A2 n2 c2]] w1 (RetF F w1)) : Calls Tryz.prog 18 #[.string ⟨#[45]⟩, VV k8 p8 q8 g8 A8 C8 n8 c8 m8 d8 r8, VV k7 p7 q7 g7 A7 C7 n7 c7 m7 d7 r7] w (RetF F w) :=
  bin_sub w hva hvb (hS) (fun w1 h1 => arith_BB w1 (Lib.hid (hL.out.plus h1)) (Lib.hid (hxa.out.plus h1)) (Lib.hid (hxb.out.plus h1)) hS (fun _ _ _ _ _ _ _ _ _ _ w2 h2 => HB _ _ _ _ _ _ _ _ _ _ w2 (h1.trans h2)))
theorem bk_mul_SX {xa : JV} {aa ba sa : Int} (w : World) (hL : Hid (Lai w)) (hva : Hid (Vldo w (VV k8 p8 q8 g8 A8 C8 n8 c8 m8 d8 r8) (VV ka pa qa ga Aa Ca na ca ma da ra))) (hvb : Hid (Vldo w (VV k7 p7 q7 g7 A7 C7 n7 c7 m7 d7 r7) (VV kb pb qb gb Ab Cb nb cb mb db rb))) (hxa : Hid (NV w (VV ka pa qa ga Aa Ca na ca ma da ra) xa)) (hJa : Hid (numJ xa = ⟨aa, ba, sa⟩)) (nba : ∀ z, xa ≠ .big z) (hsa : (sa != 0) = true) : Calls Tryz.prog 18 #[.string ⟨#[42]⟩, VV k8 p8 q8 g8 A8 C8 n8 c8 m8 d8 r8, VV k7 p7 q7 g7 A7 C7 n7 c7 m7 d7 r7] w (RetF (FJ .undef sa) w) :=
  bin_mul w hva hvb (FJ.stab _ _) (fun w1 h1 => (arith_SX w1 (Lib.hid (hL.out.plus h1)) (Lib.hid (hxa.out.plus h1)) hJa nba hsa).mono (fun _ _ h => retF_nil h))
theorem bk_mul_NS {xa : JV} {aa ba : Int} {xb : JV} {ab bb sb : Int} (w : World) (hL : Hid (Lai w)) (hva : Hid (Vldo w (VV k8 p8 q8 g8 A8 C8 n8 c8 m8 d8 r8) (VV ka pa qa ga Aa Ca na ca ma da ra))) (hvb : Hid (Vldo w (VV k7 p7 q7 g7 A7 C7 n7 c7 m7 d7 r7) (VV kb pb qb gb Ab Cb nb cb mb db rb))) (hxa : Hid (NV w (VV ka pa qa ga Aa Ca na ca ma da ra) xa)) (hJa : Hid (numJ xa = ⟨aa, ba, 0⟩)) (nba : ∀ z, xa ≠ .big z) (hxb : Hid (NV w (VV kb pb qb gb Ab Cb nb cb mb db rb) xb)) (hJb : Hid (numJ xb = ⟨ab, bb, sb⟩)) (nbb : ∀ z, xb ≠ .big z) (hsb : (sb != 0) = true) : Calls Tryz.prog 18 #[.string ⟨#[42]⟩, VV k8 p8 q8 g8 A8 C8 n8 c8 m8 d8 r8, VV k7 p7 q7 g7 A7 C7 n7 c7 m7 d7 r7] w (RetF (FJ .undef sb) w) :=
  bin_mul w hva hvb (FJ.stab _ _) (fun w1 h1 => (arith_NS w1 (Lib.hid (hL.out.plus h1)) (Lib.hid (hxa.out.plus h1)) hJa nba (Lib.hid (hxb.out.plus h1)) hJb nbb hsb).mono (fun _ _ h => retF_nil h))
theorem bk_mul_BS {za : Int} {xb : JV} {ab bb sb : Int} (w : World) (hL : Hid (Lai w)) (hva : Hid (Vldo w (VV k8 p8 q8 g8 A8 C8 n8 c8 m8 d8 r8) (VV ka pa qa ga Aa Ca na ca ma da ra))) (hvb : Hid (Vldo w (VV k7 p7 q7 g7 A7 C7 n7 c7 m7 d7 r7) (VV kb pb qb gb Ab Cb nb cb mb db rb))) (hxa : Hid (NV w (VV ka pa qa ga Aa Ca na ca ma da ra) (.big za))) (hxb : Hid (NV w (VV kb pb qb gb Ab Cb nb cb mb db rb) xb)) (hJb : Hid (numJ xb = ⟨ab, bb, sb⟩)) (nbb : ∀ z, xb ≠ .big z) (hsb : (sb != 0) = true) : Calls Tryz.prog 18 #[.string ⟨#[42]⟩, VV k8 p8 q8 g8 A8 C8 n8 c8 m8 d8 r8, VV k7 p7 q7 g7 A7 C7 n7 c7 m7 d7 r7] w (RetF (FJ .undef sb) w) :=
  bin_mul w hva hvb (FJ.stab _ _) (fun w1 h1 => (arith_BS w1 (Lib.hid (hL.out.plus h1)) (Lib.hid (hxa.out.plus h1)) (Lib.hid (hxb.out.plus h1)) hJb nbb hsb).mono (fun _ _ h => retF_nil h))
theorem bk_mul_NN {xa : JV} {aa ba : Int} {xb : JV} {ab bb : Int} (w : World) (hL : Hid (Lai w)) (hva : Hid (Vldo w (VV k8 p8 q8 g8 A8 C8 n8 c8 m8 d8 r8) (VV ka pa qa ga Aa Ca na ca ma da ra))) (hvb : Hid (Vldo w (VV k7 p7 q7 g7 A7 C7 n7 c7 m7 d7 r7) (VV kb pb qb gb Ab Cb nb cb mb db rb))) (hxa : Hid (NV w (VV ka pa qa ga Aa Ca na ca ma da ra) xa)) (hJa : Hid (numJ xa = ⟨aa, ba, 0⟩)) (nba : ∀ z, xa ≠ .big z) (hxb : Hid (NV w (VV kb pb qb gb Ab Cb nb cb mb db rb) xb)) (hJb : Hid (numJ xb = ⟨ab, bb, 0⟩)) (nbb : ∀ z, xb ≠ .big z) {F : Value → Int → World → Prop} (hS : Stab F) (HN : ∀ w1, Plus w w1 → Calls Tryz.prog 49 #[.string ⟨#[42]⟩, .agg #[.int .i64 aa, .int .i64 ba], .agg #[.int .i64 ab, .int .i64 bb]] w1 (RetF F w1)) : Calls Tryz.prog 18 #[.string ⟨#[42]⟩, VV k8 p8 q8 g8 A8 C8 n8 c8 m8 d8 r8, VV k7 p7 q7 g7 A7 C7 n7 c7 m7 d7 r7] w (RetF F w) :=
  bin_mul w hva hvb (hS) (fun w1 h1 => arith_NN w1 (Lib.hid (hL.out.plus h1)) (Lib.hid (hxa.out.plus h1)) hJa nba (Lib.hid (hxb.out.plus h1)) hJb nbb hS (fun w2 h2 => HN w2 (h1.trans h2)))
theorem bk_mul_NB {xa : JV} {aa ba : Int} {zb : Int} (w : World) (hL : Hid (Lai w)) (hva : Hid (Vldo w (VV k8 p8 q8 g8 A8 C8 n8 c8 m8 d8 r8) (VV ka pa qa ga Aa Ca na ca ma da ra))) (hvb : Hid (Vldo w (VV k7 p7 q7 g7 A7 C7 n7 c7 m7 d7 r7) (VV kb pb qb gb Ab Cb nb cb mb db rb))) (hxa : Hid (NV w (VV ka pa qa ga Aa Ca na ca ma da ra) xa)) (hJa : Hid (numJ xa = ⟨aa, ba, 0⟩)) (nba : ∀ z, xa ≠ .big z) (hxb : Hid (NV w (VV kb pb qb gb Ab Cb nb cb mb db rb) (.big zb))) : Calls Tryz.prog 18 #[.string ⟨#[42]⟩, VV k8 p8 q8 g8 A8 C8 n8 c8 m8 d8 r8, VV k7 p7 q7 g7 A7 C7 n7 c7 m7 d7 r7] w (RetF (FJ .undef 1) w) :=
  bin_mul w hva hvb (FJ.stab _ _) (fun w1 h1 => (arith_NB w1 (Lib.hid (hL.out.plus h1)) (Lib.hid (hxa.out.plus h1)) hJa nba (Lib.hid (hxb.out.plus h1))).mono (fun _ _ h => retF_nil h))
theorem bk_mul_BN {za : Int} {xb : JV} {ab bb : Int} (w : World) (hL : Hid (Lai w)) (hva : Hid (Vldo w (VV k8 p8 q8 g8 A8 C8 n8 c8 m8 d8 r8) (VV ka pa qa ga Aa Ca na ca ma da ra))) (hvb : Hid (Vldo w (VV k7 p7 q7 g7 A7 C7 n7 c7 m7 d7 r7) (VV kb pb qb gb Ab Cb nb cb mb db rb))) (hxa : Hid (NV w (VV ka pa qa ga Aa Ca na ca ma da ra) (.big za))) (hxb : Hid (NV w (VV kb pb qb gb Ab Cb nb cb mb db rb) xb)) (hJb : Hid (numJ xb = ⟨ab, bb, 0⟩)) (nbb : ∀ z, xb ≠ .big z) : Calls Tryz.prog 18 #[.string ⟨#[42]⟩, VV k8 p8 q8 g8 A8 C8 n8 c8 m8 d8 r8, VV k7 p7 q7 g7 A7 C7 n7 c7 m7 d7 r7] w (RetF (FJ .undef 1) w) :=
  bin_mul w hva hvb (FJ.stab _ _) (fun w1 h1 => (arith_BN w1 (Lib.hid (hL.out.plus h1)) (Lib.hid (hxa.out.plus h1)) (Lib.hid (hxb.out.plus h1)) hJb nbb).mono (fun _ _ h => retF_nil h))
theorem bk_mul_BB {za : Int} {zb : Int} (w : World) (hL : Hid (Lai w)) (hva : Hid (Vldo w (VV k8 p8 q8 g8 A8 C8 n8 c8 m8 d8 r8) (VV ka pa qa ga Aa Ca na ca ma da ra))) (hvb : Hid (Vldo w (VV k7 p7 q7 g7 A7 C7 n7 c7 m7 d7 r7) (VV kb pb qb gb Ab Cb nb cb mb db rb))) (hxa : Hid (NV w (VV ka pa qa ga Aa Ca na ca ma da ra) (.big za))) (hxb : Hid (NV w (VV kb pb qb gb Ab Cb nb cb mb db rb) (.big zb))) {F : Value → Int → World → Prop} (hS : Stab F) (HB : ∀ (g1 g2 : Bool) (A1 A2 : Option Addr) (xs1 xs2 : List Nat) (n1 c1 n2 c2 : Nat) (w1 : World), Plus w w1 → BgV g1 A1 xs1 n1 c1 za w1 → BgV g2 A2 xs2 n2 c2 zb w1 → Calls Tryz.prog 47 #[.string ⟨#[42]⟩, .agg #[.bool g1, .slice A1 n1 c1], .agg #[.bool g2, .slice A2 n2 c2]] w1 (RetF F w1)) : Calls Tryz.prog 18 #[.string ⟨#[42]⟩, VV k8 p8 q8 g8 A8 C8 n8 c8 m8 d8 r8, VV k7 p7 q7 g7 A7 C7 n7 c7 m7 d7 r7] w (RetF F w) :=
  bin_mul w hva hvb (hS) (fun w1 h1 => arith_BB w1 (Lib.hid (hL.out.plus h1)) (Lib.hid (hxa.out.plus h1)) (Lib.hid (hxb.out.plus h1)) hS (fun _ _ _ _ _ _ _ _ _ _ w2 h2 => HB _ _ _ _ _ _ _ _ _ _ w2 (h1.trans h2)))
theorem bk_div_SX {xa : JV} {aa ba sa : Int} (w : World) (hL : Hid (Lai w)) (hva : Hid (Vldo w (VV k8 p8 q8 g8 A8 C8 n8 c8 m8 d8 r8) (VV ka pa qa ga Aa Ca na ca ma da ra))) (hvb : Hid (Vldo w (VV k7 p7 q7 g7 A7 C7 n7 c7 m7 d7 r7) (VV kb pb qb gb Ab Cb nb cb mb db rb))) (hxa : Hid (NV w (VV ka pa qa ga Aa Ca na ca ma da ra) xa)) (hJa : Hid (numJ xa = ⟨aa, ba, sa⟩)) (nba : ∀ z, xa ≠ .big z) (hsa : (sa != 0) = true) : Calls Tryz.prog 18 #[.string ⟨#[47]⟩, VV k8 p8 q8 g8 A8 C8 n8 c8 m8 d8 r8, VV k7 p7 q7 g7 A7 C7 n7 c7 m7 d7 r7] w (RetF (FJ .undef sa) w) :=
  bin_div w hva hvb (FJ.stab _ _) (fun w1 h1 => (arith_SX w1 (Lib.hid (hL.out.plus h1)) (Lib.hid (hxa.out.plus h1)) hJa nba hsa).mono (fun _ _ h => retF_nil h))
theorem bk_div_NS {xa : JV} {aa ba : Int} {xb : JV} {ab bb sb : Int} (w : World) (hL : Hid (Lai w)) (hva : Hid (Vldo w (VV k8 p8 q8 g8 A8 C8 n8 c8 m8 d8 r8) (VV ka pa qa ga Aa Ca na ca ma da ra))) (hvb : Hid (Vldo w (VV k7 p7 q7 g7 A7 C7 n7 c7 m7 d7 r7) (VV kb pb qb gb Ab Cb nb cb mb db rb))) (hxa : Hid (NV w (VV ka pa qa ga Aa Ca na ca ma da ra) xa)) (hJa : Hid (numJ xa = ⟨aa, ba, 0⟩)) (nba : ∀ z, xa ≠ .big z) (hxb : Hid (NV w (VV kb pb qb gb Ab Cb nb cb mb db rb) xb)) (hJb : Hid (numJ xb = ⟨ab, bb, sb⟩)) (nbb : ∀ z, xb ≠ .big z) (hsb : (sb != 0) = true) : Calls Tryz.prog 18 #[.string ⟨#[47]⟩, VV k8 p8 q8 g8 A8 C8 n8 c8 m8 d8 r8, VV k7 p7 q7 g7 A7 C7 n7 c7 m7 d7 r7] w (RetF (FJ .undef sb) w) :=
  bin_div w hva hvb (FJ.stab _ _) (fun w1 h1 => (arith_NS w1 (Lib.hid (hL.out.plus h1)) (Lib.hid (hxa.out.plus h1)) hJa nba (Lib.hid (hxb.out.plus h1)) hJb nbb hsb).mono (fun _ _ h => retF_nil h))
theorem bk_div_BS {za : Int} {xb : JV} {ab bb sb : Int} (w : World) (hL : Hid (Lai w)) (hva : Hid (Vldo w (VV k8 p8 q8 g8 A8 C8 n8 c8 m8 d8 r8) (VV ka pa qa ga Aa Ca na ca ma da ra))) (hvb : Hid (Vldo w (VV k7 p7 q7 g7 A7 C7 n7 c7 m7 d7 r7) (VV kb pb qb gb Ab Cb nb cb mb db rb))) (hxa : Hid (NV w (VV ka pa qa ga Aa Ca na ca ma da ra) (.big za))) (hxb : Hid (NV w (VV kb pb qb gb Ab Cb nb cb mb db rb) xb)) (hJb : Hid (numJ xb = ⟨ab, bb, sb⟩)) (nbb : ∀ z, xb ≠ .big z) (hsb : (sb != 0) = true) : Calls Tryz.prog 18 #[.string ⟨#[47]⟩, VV k8 p8 q8 g8 A8 C8 n8 c8 m8 d8 r8, VV k7 p7 q7 g7 A7 C7 n7 c7 m7 d7 r7] w (RetF (FJ .undef sb) w) :=
  bin_div w hva hvb (FJ.stab _ _) (fun w1 h1 => (arith_BS w1 (Lib.hid (hL.out.plus h1)) (Lib.hid (hxa.out.plus h1)) (Lib.hid (hxb.out.plus h1)) hJb nbb hsb).mono (fun _ _ h => retF_nil h))
theorem bk_div_NN {xa : JV} {aa ba : Int} {xb : JV} {ab bb : Int} (w : World) (hL : Hid (Lai w)) (hva : Hid (Vldo w (VV k8 p8 q8 g8 A8 C8 n8 c8 m8 d8 r8) (VV ka pa qa ga Aa Ca na ca ma da ra))) (hvb : Hid (Vldo w (VV k7 p7 q7 g7 A7 C7 n7 c7 m7 d7 r7) (VV kb pb qb gb Ab Cb nb cb mb db rb))) (hxa : Hid (NV w (VV ka pa qa ga Aa Ca na ca ma da ra) xa)) (hJa : Hid (numJ xa = ⟨aa, ba, 0⟩)) (nba : ∀ z, xa ≠ .big z) (hxb : Hid (NV w (VV kb pb qb gb Ab Cb nb cb mb db rb) xb)) (hJb : Hid (numJ xb = ⟨ab, bb, 0⟩)) (nbb : ∀ z, xb ≠ .big z) {F : Value → Int → World → Prop} (hS : Stab F) (HN : ∀ w1, Plus w w1 → Calls Tryz.prog 49 #[.string ⟨#[47]⟩, .agg #[.int .i64 aa, .int .i64 ba], .agg #[.int .i64 ab, .int .i64 bb]] w1 (RetF F w1)) : Calls Tryz.prog 18 #[.string ⟨#[47]⟩, VV k8 p8 q8 g8 A8 C8 n8 c8 m8 d8 r8, VV k7 p7 q7 g7 A7 C7 n7 c7 m7 d7 r7] w (RetF F w) :=
  bin_div w hva hvb (hS) (fun w1 h1 => arith_NN w1 (Lib.hid (hL.out.plus h1)) (Lib.hid (hxa.out.plus h1)) hJa nba (Lib.hid (hxb.out.plus h1)) hJb nbb hS (fun w2 h2 => HN w2 (h1.trans h2)))
theorem bk_div_NB {xa : JV} {aa ba : Int} {zb : Int} (w : World) (hL : Hid (Lai w)) (hva : Hid (Vldo w (VV k8 p8 q8 g8 A8 C8 n8 c8 m8 d8 r8) (VV ka pa qa ga Aa Ca na ca ma da ra))) (hvb : Hid (Vldo w (VV k7 p7 q7 g7 A7 C7 n7 c7 m7 d7 r7) (VV kb pb qb gb Ab Cb nb cb mb db rb))) (hxa : Hid (NV w (VV ka pa qa ga Aa Ca na ca ma da ra) xa)) (hJa : Hid (numJ xa = ⟨aa, ba, 0⟩)) (nba : ∀ z, xa ≠ .big z) (hxb : Hid (NV w (VV kb pb qb gb Ab Cb nb cb mb db rb) (.big zb))) : Calls Tryz.prog 18 #[.string ⟨#[47]⟩, VV k8 p8 q8 g8 A8 C8 n8 c8 m8 d8 r8, VV k7 p7 q7 g7 A7 C7 n7 c7 m7 d7 r7] w (RetF (FJ .undef 1) w) :=
  bin_div w hva hvb (FJ.stab _ _) (fun w1 h1 => (arith_NB w1 (Lib.hid (hL.out.plus h1)) (Lib.hid (hxa.out.plus h1)) hJa nba (Lib.hid (hxb.out.plus h1))).mono (fun _ _ h => retF_nil h))
theorem bk_div_BN {za : Int} {xb : JV} {ab bb : Int} (w : World) (hL : Hid (Lai w)) (hva : Hid (Vldo w (VV k8 p8 q8 g8 A8 C8 n8 c8 m8 d8 r8) (VV ka pa qa ga Aa Ca na ca ma da ra))) (hvb : Hid (Vldo w (VV k7 p7 q7 g7 A7 C7 n7 c7 m7 d7 r7) (VV kb pb qb gb Ab Cb nb cb mb db rb))) (hxa : Hid (NV w (VV ka pa qa ga Aa Ca na ca ma da ra) (.big za))) (hxb : Hid (NV w (VV kb pb qb gb Ab Cb nb cb mb db rb) xb)) (hJb : Hid (numJ xb = ⟨ab, bb, 0⟩)) (nbb : ∀ z, xb ≠ .big z) : Calls Tryz.prog 18 #[.string ⟨#[47]⟩, VV k8 p8 q8 g8 A8 C8 n8 c8 m8 d8 r8, VV k7 p7 q7 g7 A7 C7 n7 c7 m7 d7 r7] w (RetF (FJ .undef 1) w) :=
  bin_div w hva hvb (FJ.stab _ _) (fun w1 h1 => (arith_BN w1 (Lib.hid (hL.out.plus h1)) (Lib.hid (hxa.out.plus h1)) (Lib.hid (hxb.out.plus h1)) hJb nbb).mono (fun _ _ h => retF_nil h))
theorem bk_div_BB {za : Int} {zb : Int} (w : World) (hL : Hid (Lai w)) (hva : Hid (Vldo w (VV k8 p8 q8 g8 A8 C8 n8 c8 m8 d8 r8) (VV ka pa qa ga Aa Ca na ca ma da ra))) (hvb : Hid (Vldo w (VV k7 p7 q7 g7 A7 C7 n7 c7 m7 d7 r7) (VV kb pb qb gb Ab Cb nb cb mb db rb))) (hxa : Hid (NV w (VV ka pa qa ga Aa Ca na ca ma da ra) (.big za))) (hxb : Hid (NV w (VV kb pb qb gb Ab Cb nb cb mb db rb) (.big zb))) {F : Value → Int → World → Prop} (hS : Stab F) (HB : ∀ (g1 g2 : Bool) (A1 A2 : Option Addr) (xs1 xs2 : List Nat) (n1 c1 n2 c2 : Nat) (w1 : World), Plus w w1 → BgV g1 A1 xs1 n1 c1 za w1 → BgV g2 A2 xs2 n2 c2 zb w1 → Calls Tryz.prog 47 #[.string ⟨#[47]⟩, .agg #[.bool g1, .slice A1 n1 c1], .agg #[.bool g2, .slice A2 n2 c2]] w1 (RetF F w1)) : Calls Tryz.prog 18 #[.string ⟨#[47]⟩, VV k8 p8 q8 g8 A8 C8 n8 c8 m8 d8 r8, VV k7 p7 q7 g7 A7 C7 n7 c7 m7 d7 r7] w (RetF F w) :=
  bin_div w hva hvb (hS) (fun w1 h1 => arith_BB w1 (Lib.hid (hL.out.plus h1)) (Lib.hid (hxa.out.plus h1)) (Lib.hid (hxb.out.plus h1)) hS (fun _ _ _ _ _ _ _ _ _ _ w2 h2 => HB _ _ _ _ _ _ _ _ _ _ w2 (h1.trans h2)))
theorem bk_rem_SX {xa : JV} {aa ba sa : Int} (w : World) (hL : Hid (Lai w)) (hva : Hid (Vldo w (VV k8 p8 q8 g8 A8 C8 n8 c8 m8 d8 r8) (VV ka pa qa ga Aa Ca na ca ma da ra))) (hvb : Hid (Vldo w (VV k7 p7 q7 g7 A7 C7 n7 c7 m7 d7 r7) (VV kb pb qb gb Ab Cb nb cb mb db rb))) (hxa : Hid (NV w (VV ka pa qa ga Aa Ca na ca ma da ra) xa)) (hJa : Hid (numJ xa = ⟨aa, ba, sa⟩)) (nba : ∀ z, xa ≠ .big z) (hsa : (sa != 0) = true) : Calls Tryz.prog 18 #[.string ⟨#[37]⟩, VV k8 p8 q8 g8 A8 C8 n8 c8 m8 d8 r8, VV k7 p7 q7 g7 A7 C7 n7 c7 m7 d7 r7] w (RetF (FJ .undef sa) w) :=
  bin_rem w hva hvb (FJ.stab _ _) (fun w1 h1 => (arith_SX w1 (Lib.hid (hL.out.plus h1)) (Lib.hid (hxa.out.plus h1)) hJa nba hsa).mono (fun _ _ h => retF_nil h))
theorem bk_rem_NS {xa : JV} {aa ba : Int} {xb : JV} {ab bb sb : Int} (w : World) (hL : Hid (Lai w)) (hva : Hid (Vldo w (VV k8 p8 q8 g8 A8 C8 n8 c8 m8 d8 r8) (VV ka pa qa ga Aa Ca na ca ma da ra))) (hvb : Hid (Vldo w (VV k7 p7 q7 g7 A7 C7 n7 c7 m7 d7 r7) (VV kb pb qb gb Ab Cb nb cb mb db rb))) (hxa : Hid (NV w (VV ka pa qa ga Aa Ca na ca ma da ra) xa)) (hJa : Hid (numJ xa = ⟨aa, ba, 0⟩)) (nba : ∀ z, xa ≠ .big z) (hxb : Hid (NV w (VV kb pb qb gb Ab Cb nb cb mb db rb) xb)) (hJb : Hid (numJ xb = ⟨ab, bb, sb⟩)) (nbb : ∀ z, xb ≠ .big z) (hsb : (sb != 0) = true) : Calls Tryz.prog 18 #[.string ⟨#[37]⟩, VV k8 p8 q8 g8 A8 C8 n8 c8 m8 d8 r8, VV k7 p7 q7 g7 A7 C7 n7 c7 m7 d7 r7] w (RetF (FJ .undef sb) w) :=
  bin_rem w hva hvb (FJ.stab _ _) (fun w1 h1 => (arith_NS w1 (Lib.hid (hL.out.plus h1)) (Lib.hid (hxa.out.plus h1)) hJa nba (Lib.hid (hxb.out.plus h1)) hJb nbb hsb).mono (fun _ _ h => retF_nil h))
theorem bk_rem_BS {za : Int} {xb : JV} {ab bb sb : Int} (w : World) (hL : Hid (Lai w)) (hva : Hid (Vldo w (VV k8 p8 q8 g8 A8 C8 n8 c8 m8 d8 r8) (VV ka pa qa ga Aa Ca na ca ma da ra))) (hvb : Hid (Vldo w (VV k7 p7 q7 g7 A7 C7 n7 c7 m7 d7 r7) (VV kb pb qb gb Ab Cb nb cb mb db rb))) (hxa : Hid (NV w (VV ka pa qa ga Aa Ca na ca ma da ra) (.big za))) (hxb : Hid (NV w (VV kb pb qb gb Ab Cb nb cb mb db rb) xb)) (hJb : Hid (numJ xb = ⟨ab, bb, sb⟩)) (nbb : ∀ z, xb ≠ .big z) (hsb : (sb != 0) = true) : Calls Tryz.prog 18 #[.string ⟨#[37]⟩, VV k8 p8 q8 g8 A8 C8 n8 c8 m8 d8 r8, VV k7 p7 q7 g7 A7 C7 n7 c7 m7 d7 r7] w (RetF (FJ .undef sb) w) :=
  bin_rem w hva hvb (FJ.stab _ _) (fun w1 h1 => (arith_BS w1 (Lib.hid (hL.out.plus h1)) (Lib.hid (hxa.out.plus h1)) (Lib.hid (hxb.out.plus h1)) hJb nbb hsb).mono (fun _ _ h => retF_nil h))
theorem bk_rem_NN {xa : JV} {aa ba : Int} {xb : JV} {ab bb : Int} (w : World) (hL : Hid (Lai w)) (hva : Hid (Vldo w (VV k8 p8 q8 g8 A8 C8 n8 c8 m8 d8 r8) (VV ka pa qa ga Aa Ca na ca ma da ra))) (hvb : Hid (Vldo w (VV k7 p7 q7 g7 A7 C7 n7 c7 m7 d7 r7) (VV kb pb qb gb Ab Cb nb cb mb db rb))) (hxa : Hid (NV w (VV ka pa qa ga Aa Ca na ca ma da ra) xa)) (hJa : Hid (numJ xa = ⟨aa, ba, 0⟩)) (nba : ∀ z, xa ≠ .big z) (hxb : Hid (NV w (VV kb pb qb gb Ab Cb nb cb mb db rb) xb)) (hJb : Hid (numJ xb = ⟨ab, bb, 0⟩)) (nbb : ∀ z, xb ≠ .big z) {F : Value → Int → World → Prop} (hS : Stab F) (HN : ∀ w1, Plus w w1 → Calls Tryz.prog 49 #[.string ⟨#[37]⟩, .agg #[.int .i64 aa, .int .i64 ba], .agg #[.int .i64 ab, .int .i64 bb]] w1 (RetF F w1)) : Calls Tryz.prog 18 #[.string ⟨#[37]⟩, VV k8 p8 q8 g8 A8 C8 n8 c8 m8 d8 r8, VV k7 p7 q7 g7 A7 C7 n7 c7 m7 d7 r7] w (RetF F w) :=
  bin_rem w hva hvb (hS) (fun w1 h1 => arith_NN w1 (Lib.hid (hL.out.plus h1)) (Lib.hid (hxa.out.plus h1)) hJa nba (Lib.hid (hxb.out.plus h1)) hJb nbb hS (fun w2 h2 => HN w2 (h1.trans h2)))
theorem bk_rem_NB {xa : JV} {aa ba : Int} {zb : Int} (w : World) (hL : Hid (Lai w)) (hva : Hid (Vldo w (VV k8 p8 q8 g8 A8 C8 n8 c8 m8 d8 r8) (VV ka pa qa ga Aa Ca na ca ma da ra))) (hvb : Hid (Vldo w (VV k7 p7 q7 g7 A7 C7 n7 c7 m7 d7 r7) (VV kb pb qb gb Ab Cb nb cb mb db rb))) (hxa : Hid (NV w (VV ka pa qa ga Aa Ca na ca ma da ra) xa)) (hJa : Hid (numJ xa = ⟨aa, ba, 0⟩)) (nba : ∀ z, xa ≠ .big z) (hxb : Hid (NV w (VV kb pb qb gb Ab Cb nb cb mb db rb) (.big zb))) : Calls Tryz.prog 18 #[.string ⟨#[37]⟩, VV k8 p8 q8 g8 A8 C8 n8 c8 m8 d8 r8, VV k7 p7 q7 g7 A7 C7 n7 c7 m7 d7 r7] w (RetF (FJ .undef 1) w) :=
  bin_rem w hva hvb (FJ.stab _ _) (fun w1 h1 => (arith_NB w1 (Lib.hid (hL.out.plus h1)) (Lib.hid (hxa.out.plus h1)) hJa nba (Lib.hid (hxb.out.plus h1))).mono (fun _ _ h => retF_nil h))
theorem bk_rem_BN {za : Int} {xb : JV} {ab bb : Int} (w : World) (hL : Hid (Lai w)) (hva : Hid (Vldo w (VV k8 p8 q8 g8 A8 C8 n8 c8 m8 d8 r8) (VV ka pa qa ga Aa Ca na ca ma da ra))) (hvb : Hid (Vldo w (VV k7 p7 q7 g7 A7 C7 n7 c7 m7 d7 r7) (VV kb pb qb gb Ab Cb nb cb mb db rb))) (hxa : Hid (NV w (VV ka pa qa ga Aa Ca na ca ma da ra) (.big za))) (hxb : Hid (NV w (VV kb pb qb gb Ab Cb nb cb mb db rb) xb)) (hJb : Hid (numJ xb = ⟨ab, bb, 0⟩)) (nbb : ∀ z, xb ≠ .big z) : Calls Tryz.prog 18 #[.string ⟨#[37]⟩, VV k8 p8 q8 g8 A8 C8 n8 c8 m8 d8 r8, VV k7 p7 q7 g7 A7 C7 n7 c7 m7 d7 r7] w (RetF (FJ .undef 1) w) :=
  bin_rem w hva hvb (FJ.stab _ _) (fun w1 h1 => (arith_BN w1 (Lib.hid (hL.out.plus h1)) (Lib.hid (hxa.out.plus h1)) (Lib.hid (hxb.out.plus h1)) hJb nbb).mono (fun _ _ h => retF_nil h))
theorem bk_rem_BB {za : Int} {zb : Int} (w : World) (hL : Hid (Lai w)) (hva : Hid (Vldo w (VV k8 p8 q8 g8 A8 C8 n8 c8 m8 d8 r8) (VV ka pa qa ga Aa Ca na ca ma da ra))) (hvb : Hid (Vldo w (VV k7 p7 q7 g7 A7 C7 n7 c7 m7 d7 r7) (VV kb pb qb gb Ab Cb nb cb mb db rb))) (hxa : Hid (NV w (VV ka pa qa ga Aa Ca na ca ma da ra) (.big za))) (hxb : Hid (NV w (VV kb pb qb gb Ab Cb nb cb mb db rb) (.big zb))) {F : Value → Int → World → Prop} (hS : Stab F) (HB : ∀ (g1 g2 : Bool) (A1 A2 : Option Addr) (xs1 xs2 : List Nat) (n1 c1 n2 c2 : Nat) (w1 : World), Plus w w1 → BgV g1 A1 xs1 n1 c1 za w1 → BgV g2 A2 xs2 n2 c2 zb w1 → Calls Tryz.prog 47 #[.string ⟨#[37]⟩, .agg #[.bool g1, .slice A1 n1 c1], .agg #[.bool g2, .slice A2 n2 c2]] w1 (RetF F w1)) : Calls Tryz.prog 18 #[.string ⟨#[37]⟩, VV k8 p8 q8 g8 A8 C8 n8 c8 m8 d8 r8, VV k7 p7 q7 g7 A7 C7 n7 c7 m7 d7 r7] w (RetF F w) :=
  bin_rem w hva hvb (hS) (fun w1 h1 => arith_BB w1 (Lib.hid (hL.out.plus h1)) (Lib.hid (hxa.out.plus h1)) (Lib.hid (hxb.out.plus h1)) hS (fun _ _ _ _ _ _ _ _ _ _ w2 h2 => HB _ _ _ _ _ _ _ _ _ _ w2 (h1.trans h2)))
theorem bk_and_SX {xa : JV} {aa ba sa : Int} (w : World) (hL : Hid (Lai w)) (hva : Hid (Vldo w (VV k8 p8 q8 g8 A8 C8 n8 c8 m8 d8 r8) (VV ka pa qa ga Aa Ca na ca ma da ra))) (hvb : Hid (Vldo w (VV k7 p7 q7 g7 A7 C7 n7 c7 m7 d7 r7) (VV kb pb qb gb Ab Cb nb cb mb db rb))) (hxa : Hid (NV w (VV ka pa qa ga Aa Ca na ca ma da ra) xa)) (hJa : Hid (numJ xa = ⟨aa, ba, sa⟩)) (nba : ∀ z, xa ≠ .big z) (hsa : (sa != 0) = true) : Calls Tryz.prog 18 #[.string ⟨#[38]⟩, VV k8 p8 q8 g8 A8 C8 n8 c8 m8 d8 r8, VV k7 p7 q7 g7 A7 C7 n7 c7 m7 d7 r7] w (RetF (FJ .undef sa) w) :=
  bin_and w hva hvb (FJ.stab _ _) (fun w1 h1 => (bits_SX w1 (Lib.hid (hL.out.plus h1)) (Lib.hid (hxa.out.plus h1)) hJa nba hsa).mono (fun _ _ h => retF_nil h))
theorem bk_and_NS {xa : JV} {aa ba : Int} {xb : JV} {ab bb sb : Int} (w : World) (hL : Hid (Lai w)) (hva : Hid (Vldo w (VV k8 p8 q8 g8 A8 C8 n8 c8 m8 d8 r8) (VV ka pa qa ga Aa Ca na ca ma da ra))) (hvb : Hid (Vldo w (VV k7 p7 q7 g7 A7 C7 n7 c7 m7 d7 r7) (VV kb pb qb gb Ab Cb nb cb mb db rb))) (hxa : Hid (NV w (VV ka pa qa ga Aa Ca na ca ma da ra) xa)) (hJa : Hid (numJ xa = ⟨aa, ba, 0⟩)) (nba : ∀ z, xa ≠ .big z) (hxb : Hid (NV w (VV kb pb qb gb Ab Cb nb cb mb db rb) xb)) (hJb : Hid (numJ xb = ⟨ab, bb, sb⟩)) (nbb : ∀ z, xb ≠ .big z) (hsb : (sb != 0) = true) : Calls Tryz.prog 18 #[.string ⟨#[38]⟩, VV k8 p8 q8 g8 A8 C8 n8 c8 m8 d8 r8, VV k7 p7 q7 g7 A7 C7 n7 c7 m7 d7 r7] w (RetF (FJ .undef sb) w) :=
  bin_and w hva hvb (FJ.stab _ _) (fun w1 h1 => (bits_NS w1 (Lib.hid (hL.out.plus h1)) (Lib.hid (hxa.out.plus h1)) hJa nba (Lib.hid (hxb.out.plus h1)) hJb nbb hsb).mono (fun _ _ h => retF_nil h))
theorem bk_and_BS {za : Int} {xb : JV} {ab bb sb : Int} (w : World) (hL : Hid (Lai w)) (hva : Hid (Vldo w (VV k8 p8 q8 g8 A8 C8 n8 c8 m8 d8 r8) (VV ka pa qa ga Aa Ca na ca ma da ra))) (hvb : Hid (Vldo w (VV k7 p7 q7 g7 A7 C7 n7 c7 m7 d7 r7) (VV kb pb qb gb Ab Cb nb cb mb db rb))) (hxa : Hid (NV w (VV ka pa qa ga Aa Ca na ca ma da ra) (.big za))) (hxb : Hid (NV w (VV kb pb qb gb Ab Cb nb cb mb db rb) xb)) (hJb : Hid (numJ xb = ⟨ab, bb, sb⟩)) (nbb : ∀ z, xb ≠ .big z) (hsb : (sb != 0) = true) : Calls Tryz.prog 18 #[.string ⟨#[38]⟩, VV k8 p8 q8 g8 A8 C8 n8 c8 m8 d8 r8, VV k7 p7 q7 g7 A7 C7 n7 c7 m7 d7 r7] w (RetF (FJ .undef sb) w) :=
  bin_and w hva hvb (FJ.stab _ _) (fun w1 h1 => (bits_BS w1 (Lib.hid (hL.out.plus h1)) (Lib.hid (hxa.out.plus h1)) (Lib.hid (hxb.out.plus h1)) hJb nbb hsb).mono (fun _ _ h => retF_nil h))
theorem bk_and_NN {xa : JV} {aa ba : Int} {xb : JV} {ab bb : Int} (w : World) (hL : Hid (Lai w)) (hva : Hid (Vldo w (VV k8 p8 q8 g8 A8 C8 n8 c8 m8 d8 r8) (VV ka pa qa ga Aa Ca na ca ma da ra))) (hvb : Hid (Vldo w (VV k7 p7 q7 g7 A7 C7 n7 c7 m7 d7 r7) (VV kb pb qb gb Ab Cb nb cb mb db rb))) (hxa : Hid (NV w (VV ka pa qa ga Aa Ca na ca ma da ra) xa)) (hJa : Hid (numJ xa = ⟨aa, ba, 0⟩)) (nba : ∀ z, xa ≠ .big z) (hxb : Hid (NV w (VV kb pb qb gb Ab Cb nb cb mb db rb) xb)) (hJb : Hid (numJ xb = ⟨ab, bb, 0⟩)) (nbb : ∀ z, xb ≠ .big z) {x y : Int} (h : Hid (bitR 1 aa ba ab bb = ⟨x, y⟩)) (vr : IsV x y) : Calls Tryz.prog 18 #[.string ⟨#[38]⟩, VV k8 p8 q8 g8 A8 C8 n8 c8 m8 d8 r8, VV k7 p7 q7 g7 A7 C7 n7 c7 m7 d7 r7] w (RetF (FJ (.num x y) 0) w) :=
  bin_and w hva hvb (FJ.stab _ _) (fun w1 h1 => (bits_NN_and w1 (Lib.hid (hL.out.plus h1)) (Lib.hid (hxa.out.plus h1)) hJa nba (Lib.hid (hxb.out.plus h1)) hJb nbb h).mono (fun _ _ h => retF_num vr h))
theorem bk_and_NB {xa : JV} {aa ba : Int} {zb : Int} (w : World) (hL : Hid (Lai w)) (hva : Hid (Vldo w (VV k8 p8 q8 g8 A8 C8 n8 c8 m8 d8 r8) (VV ka pa qa ga Aa Ca na ca ma da ra))) (hvb : Hid (Vldo w (VV k7 p7 q7 g7 A7 C7 n7 c7 m7 d7 r7) (VV kb pb qb gb Ab Cb nb cb mb db rb))) (hxa : Hid (NV w (VV ka pa qa ga Aa Ca na ca ma da ra) xa)) (hJa : Hid (numJ xa = ⟨aa, ba, 0⟩)) (nba : ∀ z, xa ≠ .big z) (hxb : Hid (NV w (VV kb pb qb gb Ab Cb nb cb mb db rb) (.big zb))) : Calls Tryz.prog 18 #[.string ⟨#[38]⟩, VV k8 p8 q8 g8 A8 C8 n8 c8 m8 d8 r8, VV k7 p7 q7 g7 A7 C7 n7 c7 m7 d7 r7] w (RetF (FJ .undef 1) w) :=
  bin_and w hva hvb (FJ.stab _ _) (fun w1 h1 => (bits_NB w1 (Lib.hid (hL.out.plus h1)) (Lib.hid (hxa.out.plus h1)) hJa nba (Lib.hid (hxb.out.plus h1))).mono (fun _ _ h => retF_nil h))
theorem bk_and_BN {za : Int} {xb : JV} {ab bb : Int} (w : World) (hL : Hid (Lai w)) (hva : Hid (Vldo w (VV k8 p8 q8 g8 A8 C8 n8 c8 m8 d8 r8) (VV ka pa qa ga Aa Ca na ca ma da ra))) (hvb : Hid (Vldo w (VV k7 p7 q7 g7 A7 C7 n7 c7 m7 d7 r7) (VV kb pb qb gb Ab Cb nb cb mb db rb))) (hxa : Hid (NV w (VV ka pa qa ga Aa Ca na ca ma da ra) (.big za))) (hxb : Hid (NV w (VV kb pb qb gb Ab Cb nb cb mb db rb) xb)) (hJb : Hid (numJ xb = ⟨ab, bb, 0⟩)) (nbb : ∀ z, xb ≠ .big z) : Calls Tryz.prog 18 #[.string ⟨#[38]⟩, VV k8 p8 q8 g8 A8 C8 n8 c8 m8 d8 r8, VV k7 p7 q7 g7 A7 C7 n7 c7 m7 d7 r7] w (RetF (FJ .undef 1) w) :=
  bin_and w hva hvb (FJ.stab _ _) (fun w1 h1 => (bits_BN w1 (Lib.hid (hL.out.plus h1)) (Lib.hid (hxa.out.plus h1)) (Lib.hid (hxb.out.plus h1)) hJb nbb).mono (fun _ _ h => retF_nil h))
theorem bk_and_BB {za : Int} {zb : Int} (w : World) (hL : Hid (Lai w)) (hva : Hid (Vldo w (VV k8 p8 q8 g8 A8 C8 n8 c8 m8 d8 r8) (VV ka pa qa ga Aa Ca na ca ma da ra))) (hvb : Hid (Vldo w (VV k7 p7 q7 g7 A7 C7 n7 c7 m7 d7 r7) (VV kb pb qb gb Ab Cb nb cb mb db rb))) (hxa : Hid (NV w (VV ka pa qa ga Aa Ca na ca ma da ra) (.big za))) (hxb : Hid (NV w (VV kb pb qb gb Ab Cb nb cb mb db rb) (.big zb))) : Calls Tryz.prog 18 #[.string ⟨#[38]⟩, VV k8 p8 q8 g8 A8 C8 n8 c8 m8 d8 r8, VV k7 p7 q7 g7 A7 C7 n7 c7 m7 d7 r7] w (RetF (FJ .undef 3) w) :=
  bin_and w hva hvb (FJ.stab _ _) (fun w1 h1 => (bits_BB_and w1 (Lib.hid (hL.out.plus h1)) (Lib.hid (hxa.out.plus h1)) (Lib.hid (hxb.out.plus h1))).mono (fun _ _ h => retF_nil h))
theorem bk_or_SX {xa : JV} {aa ba sa : Int} (w : World) (hL : Hid (Lai w)) (hva : Hid (Vldo w (VV k8 p8 q8 g8 A8 C8 n8 c8 m8 d8 r8) (VV ka pa qa ga Aa Ca na ca ma da ra))) (hvb : Hid (Vldo w (VV k7 p7 q7 g7 A7 C7 n7 c7 m7 d7 r7) (VV kb pb qb gb Ab Cb nb cb mb db rb))) (hxa : Hid (NV w (VV ka pa qa ga Aa Ca na ca ma da ra) xa)) (hJa : Hid (numJ xa = ⟨aa, ba, sa⟩)) (nba : ∀ z, xa ≠ .big z) (hsa : (sa != 0) = true) : Calls Tryz.prog 18 #[.string ⟨#[124]⟩, VV k8 p8 q8 g8 A8 C8 n8 c8 m8 d8 r8, VV k7 p7 q7 g7 A7 C7 n7 c7 m7 d7 r7] w (RetF (FJ .undef sa) w) :=
  bin_or w hva hvb (FJ.stab _ _) (fun w1 h1 => (bits_SX w1 (Lib.hid (hL.out.plus h1)) (Lib.hid (hxa.out.plus h1)) hJa nba hsa).mono (fun _ _ h => retF_nil h))
theorem bk_or_NS {xa : JV} {aa ba : Int} {xb : JV} {ab bb sb : Int} (w : World) (hL : Hid (Lai w)) (hva : Hid (Vldo w (VV k8 p8 q8 g8 A8 C8 n8 c8 m8 d8 r8) (VV ka pa qa ga Aa Ca na ca ma da ra))) (hvb : Hid (Vldo w (VV k7 p7 q7 g7 A7 C7 n7 c7 m7 d7 r7) (VV kb pb qb gb Ab Cb nb cb mb db rb))) (hxa : Hid (NV w (VV ka pa qa ga Aa Ca na ca ma da ra) xa)) (hJa : Hid (numJ xa = ⟨aa, ba, 0⟩)) (nba : ∀ z, xa ≠ .big z) (hxb : Hid (NV w (VV kb pb qb gb Ab Cb nb cb mb db rb) xb)) (hJb : Hid (numJ xb = ⟨ab, bb, sb⟩)) (nbb : ∀ z, xb ≠ .big z) (hsb : (sb != 0) = true) : Calls Tryz.prog 18 #[.string ⟨#[124]⟩, VV k8 p8 q8 g8 A8 C8 n8 c8 m8 d8 r8, VV k7 p7 q7 g7 A7 C7 n7 c7 m7 d7 r7] w (RetF (FJ .undef sb) w) :=
  bin_or w hva hvb (FJ.stab _ _) (fun w1 h1 => (bits_NS w1 (Lib.hid (hL.out.plus h1)) (Lib.hid (hxa.out.plus h1)) hJa nba (Lib.hid (hxb.out.plus h1)) hJb nbb hsb).mono (fun _ _ h => retF_nil h))
theorem bk_or_BS {za : Int} {xb : JV} {ab bb sb : Int} (w : World) (hL : Hid (Lai w)) (hva : Hid (Vldo w (VV k8 p8 q8 g8 A8 C8 n8 c8 m8 d8 r8) (VV ka pa qa ga Aa Ca na ca ma da ra))) (hvb : Hid (Vldo w (VV k7 p7 q7 g7 A7 C7 n7 c7 m7 d7 r7) (VV kb pb qb gb Ab Cb nb cb mb db rb))) (hxa : Hid (NV w (VV ka pa qa ga Aa Ca na ca ma da ra) (.big za))) (hxb : Hid (NV w (VV kb pb qb gb Ab Cb nb cb mb db rb) xb)) (hJb : Hid (numJ xb = ⟨ab, bb, sb⟩)) (nbb : ∀ z, xb ≠ .big z) (hsb : (sb != 0) = true) : Calls Tryz.prog 18 #[.string ⟨#[124]⟩, VV k8 p8 q8 g8 A8 C8 n8 c8 m8 d8 r8, VV k7 p7 q7 g7 A7 C7 n7 c7 m7 d7 r7] w (RetF (FJ .undef sb) w) :=
  bin_or w hva hvb (FJ.stab _ _) (fun w1 h1 => (bits_BS w1 (Lib.hid (hL.out.plus h1)) (Lib.hid (hxa.out.plus h1)) (Lib.hid (hxb.out.plus h1)) hJb nbb hsb).mono (fun _ _ h => retF_nil h))
theorem bk_or_NN {xa : JV} {aa ba : Int} {xb : JV} {ab bb : Int} (w : World) (hL : Hid (Lai w)) (hva : Hid (Vldo w (VV k8 p8 q8 g8 A8 C8 n8 c8 m8 d8 r8) (VV ka pa qa ga Aa Ca na ca ma da ra))) (hvb : Hid (Vldo w (VV k7 p7 q7 g7 A7 C7 n7 c7 m7 d7 r7) (VV kb pb qb gb Ab Cb nb cb mb db rb))) (hxa : Hid (NV w (VV ka pa qa ga Aa Ca na ca ma da ra) xa)) (hJa : Hid (numJ xa = ⟨aa, ba, 0⟩)) (nba : ∀ z, xa ≠ .big z) (hxb : Hid (NV w (VV kb pb qb gb Ab Cb nb cb mb db rb) xb)) (hJb : Hid (numJ xb = ⟨ab, bb, 0⟩)) (nbb : ∀ z, xb ≠ .big z) {x y : Int} (h : Hid (bitR 2 aa ba ab bb = ⟨x, y⟩)) (vr : IsV x y) : Calls Tryz.prog 18 #[.string ⟨#[124]⟩, VV k8 p8 q8 g8 A8 C8 n8 c8 m8 d8 r8, VV k7 p7 q7 g7 A7 C7 n7 c7 m7 d7 r7] w (RetF (FJ (.num x y) 0) w) :=
  bin_or w hva hvb (FJ.stab _ _) (fun w1 h1 => (bits_NN_or w1 (Lib.hid (hL.out.plus h1)) (Lib.hid (hxa.out.plus h1)) hJa nba (Lib.hid (hxb.out.plus h1)) hJb nbb h).mono (fun _ _ h => retF_num vr h))
theorem bk_or_NB {xa : JV} {aa ba : Int} {zb : Int} (w : World) (hL : Hid (Lai w)) (hva : Hid (Vldo w (VV k8 p8 q8 g8 A8 C8 n8 c8 m8 d8 r8) (VV ka pa qa ga Aa Ca na ca ma da ra))) (hvb : Hid (Vldo w (VV k7 p7 q7 g7 A7 C7 n7 c7 m7 d7 r7) (VV kb pb qb gb Ab Cb nb cb mb db rb))) (hxa : Hid (NV w (VV ka pa qa ga Aa Ca na ca ma da ra) xa)) (hJa : Hid (numJ xa = ⟨aa, ba, 0⟩)) (nba : ∀ z, xa ≠ .big z) (hxb : Hid (NV w (VV kb pb qb gb Ab Cb nb cb mb db rb) (.big zb))) : Calls Tryz.prog 18 #[.string ⟨#[124]⟩, VV k8 p8 q8 g8 A8 C8 n8 c8 m8 d8 r8, VV k7 p7 q7 g7 A7 C7 n7 c7 m7 d7 r7] w (RetF (FJ .undef 1) w) :=
  bin_or w hva hvb (FJ.stab _ _) (fun w1 h1 => (bits_NB w1 (Lib.hid (hL.out.plus h1)) (Lib.hid (hxa.out.plus h1)) hJa nba (Lib.hid (hxb.out.plus h1))).mono (fun _ _ h => retF_nil h))
theorem bk_or_BN {za : Int} {xb : JV} {ab bb : Int} (w : World) (hL : Hid (Lai w)) (hva : Hid (Vldo w (VV k8 p8 q8 g8 A8 C8 n8 c8 m8 d8 r8) (VV ka pa qa ga Aa Ca na ca ma da ra))) (hvb : Hid (Vldo w (VV k7 p7 q7 g7 A7 C7 n7 c7 m7 d7 r7) (VV kb pb qb gb Ab Cb nb cb mb db rb))) (hxa : Hid (NV w (VV ka pa qa ga Aa Ca na ca ma da ra) (.big za))) (hxb : Hid (NV w (VV kb pb qb gb Ab Cb nb cb mb db rb) xb)) (hJb : Hid (numJ xb = ⟨ab, bb, 0⟩)) (nbb : ∀ z, xb ≠ .big z) : Calls Tryz.prog 18 #[.string ⟨#[124]⟩, VV k8 p8 q8 g8 A8 C8 n8 c8 m8 d8 r8, VV k7 p7 q7 g7 A7 C7 n7 c7 m7 d7 r7] w (RetF (FJ .undef 1) w) :=
  bin_or w hva hvb (FJ.stab _ _) (fun w1 h1 => (bits_BN w1 (Lib.hid (hL.out.plus h1)) (Lib.hid (hxa.out.plus h1)) (Lib.hid (hxb.out.plus h1)) hJb nbb).mono (fun _ _ h => retF_nil h))
theorem bk_or_BB {za : Int} {zb : Int} (w : World) (hL : Hid (Lai w)) (hva : Hid (Vldo w (VV k8 p8 q8 g8 A8 C8 n8 c8 m8 d8 r8) (VV ka pa qa ga Aa Ca na ca ma da ra))) (hvb : Hid (Vldo w (VV k7 p7 q7 g7 A7 C7 n7 c7 m7 d7 r7) (VV kb pb qb gb Ab Cb nb cb mb db rb))) (hxa : Hid (NV w (VV ka pa qa ga Aa Ca na ca ma da ra) (.big za))) (hxb : Hid (NV w (VV kb pb qb gb Ab Cb nb cb mb db rb) (.big zb))) : Calls Tryz.prog 18 #[.string ⟨#[124]⟩, VV k8 p8 q8 g8 A8 C8 n8 c8 m8 d8 r8, VV k7 p7 q7 g7 A7 C7 n7 c7 m7 d7 r7] w (RetF (FJ .undef 3) w) :=
  bin_or w hva hvb (FJ.stab _ _) (fun w1 h1 => (bits_BB_or w1 (Lib.hid (hL.out.plus h1)) (Lib.hid (hxa.out.plus h1)) (Lib.hid (hxb.out.plus h1))).mono (fun _ _ h => retF_nil h))
theorem bk_xor_SX {xa : JV} {aa ba sa : Int} (w : World) (hL : Hid (Lai w)) (hva : Hid (Vldo w (VV k8 p8 q8 g8 A8 C8 n8 c8 m8 d8 r8) (VV ka pa qa ga Aa Ca na ca ma da ra))) (hvb : Hid (Vldo w (VV k7 p7 q7 g7 A7 C7 n7 c7 m7 d7 r7) (VV kb pb qb gb Ab Cb nb cb mb db rb))) (hxa : Hid (NV w (VV ka pa qa ga Aa Ca na ca ma da ra) xa)) (hJa : Hid (numJ xa = ⟨aa, ba, sa⟩)) (nba : ∀ z, xa ≠ .big z) (hsa : (sa != 0) = true) : Calls Tryz.prog 18 #[.string ⟨#[94]⟩, VV k8 p8 q8 g8 A8 C8 n8 c8 m8 d8 r8, VV k7 p7 q7 g7 A7 C7 n7 c7 m7 d7 r7] w (RetF (FJ .undef sa) w) :=
  bin_xor w hva hvb (FJ.stab _ _) (fun w1 h1 => (bits_SX w1 (Lib.hid (hL.out.plus h1)) (Lib.hid (hxa.out.plus h1)) hJa nba hsa).mono (fun _ _ h => retF_nil h))
theorem bk_xor_NS {xa : JV} {aa ba : Int} {xb : JV} {ab bb sb : Int} (w : World) (hL : Hid (Lai w)) (hva : Hid (Vldo w (VV k8 p8 q8 g8 A8 C8 n8 c8 m8 d8 r8) (VV ka pa qa ga Aa Ca na ca ma da ra))) (hvb : Hid (Vldo w (VV k7 p7 q7 g7 A7 C7 n7 c7 m7 d7 r7) (VV kb pb qb gb Ab Cb nb cb mb db rb))) (hxa : Hid (NV w (VV ka pa qa ga Aa Ca na ca ma da ra) xa)) (hJa : Hid (numJ xa = ⟨aa, ba, 0⟩)) (nba : ∀ z, xa ≠ .big z) (hxb : Hid (NV w (VV kb pb qb gb Ab Cb nb cb mb db rb) xb)) (hJb : Hid (numJ xb = ⟨ab, bb, sb⟩)) (nbb : ∀ z, xb ≠ .big z) (hsb : (sb != 0) = true) : Calls Tryz.prog 18 #[.string ⟨#[94]⟩, VV k8 p8 q8 g8 A8 C8 n8 c8 m8 d8 r8, VV k7 p7 q7 g7 A7 C7 n7 c7 m7 d7 r7] w (RetF (FJ .undef sb) w) :=
  bin_xor w hva hvb (FJ.stab _ _) (fun w1 h1 => (bits_NS w1 (Lib.hid (hL.out.plus h1)) (Lib.hid (hxa.out.plus h1)) hJa nba (Lib.hid (hxb.out.plus h1)) hJb nbb hsb).mono (fun _ _ h => retF_nil h))
theorem bk_xor_BS {za : Int} {xb : JV} {ab bb sb : Int} (w : World) (hL : Hid (Lai w)) (hva : Hid (Vldo w (VV k8 p8 q8 g8 A8 C8 n8 c8 m8 d8 r8) (VV ka pa qa ga Aa Ca na ca ma da ra))) (hvb : Hid (Vldo w (VV k7 p7 q7 g7 A7 C7 n7 c7 m7 d7 r7) (VV kb pb qb gb Ab Cb nb cb mb db rb))) (hxa : Hid (NV w (VV ka pa qa ga Aa Ca na ca ma da ra) (.big za))) (hxb : Hid (NV w (VV kb pb qb gb Ab Cb nb cb mb db rb) xb)) (hJb : Hid (numJ xb = ⟨ab, bb, sb⟩)) (nbb : ∀ z, xb ≠ .big z) (hsb : (sb != 0) = true) : Calls Tryz.prog 18 #[.string ⟨#[94]⟩, VV k8 p8 q8 g8 A8 C8 n8 c8 m8 d8 r8, VV k7 p7 q7 g7 A7 C7 n7 c7 m7 d7 r7] w (RetF (FJ .undef sb) w) :=
  bin_xor w hva hvb (FJ.stab _ _) (fun w1 h1 => (bits_BS w1 (Lib.hid (hL.out.plus h1)) (Lib.hid (hxa.out.plus h1)) (Lib.hid (hxb.out.plus h1)) hJb nbb hsb).mono (fun _ _ h => retF_nil h))
theorem bk_xor_NN {xa : JV} {aa ba : Int} {xb : JV} {ab bb : Int} (w : World) (hL : Hid (Lai w)) (hva : Hid (Vldo w (VV k8 p8 q8 g8 A8 C8 n8 c8 m8 d8 r8) (VV ka pa qa ga Aa Ca na ca ma da ra))) (hvb : Hid (Vldo w (VV k7 p7 q7 g7 A7 C7 n7 c7 m7 d7 r7) (VV kb pb qb gb Ab Cb nb cb mb db rb))) (hxa : Hid (NV w (VV ka pa qa ga Aa Ca na ca ma da ra) xa)) (hJa : Hid (numJ xa = ⟨aa, ba, 0⟩)) (nba : ∀ z, xa ≠ .big z) (hxb : Hid (NV w (VV kb pb qb gb Ab Cb nb cb mb db rb) xb)) (hJb : Hid (numJ xb = ⟨ab, bb, 0⟩)) (nbb : ∀ z, xb ≠ .big z) {x y : Int} (h : Hid (bitR 3 aa ba ab bb = ⟨x, y⟩)) (vr : IsV x y) : Calls Tryz.prog 18 #[.string ⟨#[94]⟩, VV k8 p8 q8 g8 A8 C8 n8 c8 m8 d8 r8, VV k7 p7 q7 g7 A7 C7 n7 c7 m7 d7 r7] w (RetF (FJ (.num x y) 0) w) :=
  bin_xor w hva hvb (FJ.stab _ _) (fun w1 h1 => (bits_NN_xor w1 (Lib.hid (hL.out.plus h1)) (Lib.hid (hxa.out.plus h1)) hJa nba (Lib.hid (hxb.out.plus h1)) hJb nbb h).mono (fun _ _ h => retF_num vr h))
theorem bk_xor_NB {xa : JV} {aa ba : Int} {zb : Int} (w : World) (hL : Hid (Lai w)) (hva : Hid (Vldo w (VV k8 p8 q8 g8 A8 C8 n8 c8 m8 d8 r8) (VV ka pa qa ga Aa Ca na ca ma da ra))) (hvb : Hid (Vldo w (VV k7 p7 q7 g7 A7 C7 n7 c7 m7 d7 r7) (VV kb pb qb gb Ab Cb nb cb mb db rb))) (hxa : Hid (NV w (VV ka pa qa ga Aa Ca na ca ma da ra) xa)) (hJa : Hid (numJ xa = ⟨aa, ba, 0⟩)) (nba : ∀ z, xa ≠ .big z) (hxb : Hid (NV w (VV kb pb qb gb Ab Cb nb cb mb db rb) (.big zb))) : Calls Tryz.prog 18 #[.string ⟨#[94]⟩, VV k8 p8 q8 g8 A8 C8 n8 c8 m8 d8 r8, VV k7 p7 q7 g7 A7 C7 n7 c7 m7 d7 r7] w (RetF (FJ .undef 1) w) :=
  bin_xor w hva hvb (FJ.stab _ _) (fun w1 h1 => (bits_NB w1 (Lib.hid (hL.out.plus h1)) (Lib.hid (hxa.out.plus h1)) hJa nba (Lib.hid (hxb.out.plus h1))).mono (fun _ _ h => retF_nil h))
theorem bk_xor_BN {za : Int} {xb : JV} {ab bb : Int} (w : World) (hL : Hid (Lai w)) (hva : Hid (Vldo w (VV k8 p8 q8 g8 A8 C8 n8 c8 m8 d8 r8) (VV ka pa qa ga Aa Ca na ca ma da ra))) (hvb : Hid (Vldo w (VV k7 p7 q7 g7 A7 C7 n7 c7 m7 d7 r7) (VV kb pb qb gb Ab Cb nb cb mb db rb))) (hxa : Hid (NV w (VV ka pa qa ga Aa Ca na ca ma da ra) (.big za))) (hxb : Hid (NV w (VV kb pb qb gb Ab Cb nb cb mb db rb) xb)) (hJb : Hid (numJ xb = ⟨ab, bb, 0⟩)) (nbb : ∀ z, xb ≠ .big z) : Calls Tryz.prog 18 #[.string ⟨#[94]⟩, VV k8 p8 q8 g8 A8 C8 n8 c8 m8 d8 r8, VV k7 p7 q7 g7 A7 C7 n7 c7 m7 d7 r7] w (RetF (FJ .undef 1) w) :=
  bin_xor w hva hvb (FJ.stab _ _) (fun w1 h1 => (bits_BN w1 (Lib.hid (hL.out.plus h1)) (Lib.hid (hxa.out.plus h1)) (Lib.hid (hxb.out.plus h1)) hJb nbb).mono (fun _ _ h => retF_nil h))
theorem bk_xor_BB {za : Int} {zb : Int} (w : World) (hL : Hid (Lai w)) (hva : Hid (Vldo w (VV k8 p8 q8 g8 A8 C8 n8 c8 m8 d8 r8) (VV ka pa qa ga Aa Ca na ca ma da ra))) (hvb : Hid (Vldo w (VV k7 p7 q7 g7 A7 C7 n7 c7 m7 d7 r7) (VV kb pb qb gb Ab Cb nb cb mb db rb))) (hxa : Hid (NV w (VV ka pa qa ga Aa Ca na ca ma da ra) (.big za))) (hxb : Hid (NV w (VV kb pb qb gb Ab Cb nb cb mb db rb) (.big zb))) : Calls Tryz.prog 18 #[.string ⟨#[94]⟩, VV k8 p8 q8 g8 A8 C8 n8 c8 m8 d8 r8, VV k7 p7 q7 g7 A7 C7 n7 c7 m7 d7 r7] w (RetF (FJ .undef 3) w) :=
  bin_xor w hva hvb (FJ.stab _ _) (fun w1 h1 => (bits_BB_xor w1 (Lib.hid (hL.out.plus h1)) (Lib.hid (hxa.out.plus h1)) (Lib.hid (hxb.out.plus h1))).mono (fun _ _ h => retF_nil h))
theorem bk_shl_SX {xa : JV} {aa ba sa : Int} (w : World) (hL : Hid (Lai w)) (hva : Hid (Vldo w (VV k8 p8 q8 g8 A8 C8 n8 c8 m8 d8 r8) (VV ka pa qa ga Aa Ca na ca ma da ra))) (hvb : Hid (Vldo w (VV k7 p7 q7 g7 A7 C7 n7 c7 m7 d7 r7) (VV kb pb qb gb Ab Cb nb cb mb db rb))) (hxa : Hid (NV w (VV ka pa qa ga Aa Ca na ca ma da ra) xa)) (hJa : Hid (numJ xa = ⟨aa, ba, sa⟩)) (nba : ∀ z, xa ≠ .big z) (hsa : (sa != 0) = true) : Calls Tryz.prog 18 #[.string ⟨#[60, 60]⟩, VV k8 p8 q8 g8 A8 C8 n8 c8 m8 d8 r8, VV k7 p7 q7 g7 A7 C7 n7 c7 m7 d7 r7] w (RetF (FJ .undef sa) w) :=
  bin_shl w hva hvb (FJ.stab _ _) (fun w1 h1 => (bits_SX w1 (Lib.hid (hL.out.plus h1)) (Lib.hid (hxa.out.plus h1)) hJa nba hsa).mono (fun _ _ h => retF_nil h))
theorem bk_shl_NS {xa : JV} {aa ba : Int} {xb : JV} {ab bb sb : Int} (w : World) (hL : Hid (Lai w)) (hva : Hid (Vldo w (VV k8 p8 q8 g8 A8 C8 n8 c8 m8 d8 r8) (VV ka pa qa ga Aa Ca na ca ma da ra))) (hvb : Hid (Vldo w (VV k7 p7 q7 g7 A7 C7 n7 c7 m7 d7 r7) (VV kb pb qb gb Ab Cb nb cb mb db rb))) (hxa : Hid (NV w (VV ka pa qa ga Aa Ca na ca ma da ra) xa)) (hJa : Hid (numJ xa = ⟨aa, ba, 0⟩)) (nba : ∀ z, xa ≠ .big z) (hxb : Hid (NV w (VV kb pb qb gb Ab Cb nb cb mb db rb) xb)) (hJb : Hid (numJ xb = ⟨ab, bb, sb⟩)) (nbb : ∀ z, xb ≠ .big z) (hsb : (sb != 0) = true) : Calls Tryz.prog 18 #[.string ⟨#[60, 60]⟩, VV k8 p8 q8 g8 A8 C8 n8 c8 m8 d8 r8, VV k7 p7 q7 g7 A7 C7 n7 c7 m7 d7 r7] w (RetF (FJ .undef sb) w) :=
  bin_shl w hva hvb (FJ.stab _ _) (fun w1 h1 => (bits_NS w1 (Lib.hid (hL.out.plus h1)) (Lib.hid (hxa.out.plus h1)) hJa nba (Lib.hid (hxb.out.plus h1)) hJb nbb hsb).mono (fun _ _ h => retF_nil h))
theorem bk_shl_BS {za : Int} {xb : JV} {ab bb sb : Int} (w : World) (hL : Hid (Lai w)) (hva : Hid (Vldo w (VV k8 p8 q8 g8 A8 C8 n8 c8 m8 d8 r8) (VV ka pa qa ga Aa Ca na ca ma da ra))) (hvb : Hid (Vldo w (VV k7 p7 q7 g7 A7 C7 n7 c7 m7 d7 r7) (VV kb pb qb gb Ab Cb nb cb mb db rb))) (hxa : Hid (NV w (VV ka pa qa ga Aa Ca na ca ma da ra) (.big za))) (hxb : Hid (NV w (VV kb pb qb gb Ab Cb nb cb mb db rb) xb)) (hJb : Hid (numJ xb = ⟨ab, bb, sb⟩)) (nbb : ∀ z, xb ≠ .big z) (hsb : (sb != 0) = true) : Calls Tryz.prog 18 #[.string ⟨#[60, 60]⟩, VV k8 p8 q8 g8 A8 C8 n8 c8 m8 d8 r8, VV k7 p7 q7 g7 A7 C7 n7 c7 m7 d7 r7] w (RetF (FJ .undef sb) w) :=
  bin_shl w hva hvb (FJ.stab _ _) (fun w1 h1 => (bits_BS w1 (Lib.hid (hL.out.plus h1)) (Lib.hid (hxa.out.plus h1)) (Lib.hid (hxb.out.plus h1)) hJb nbb hsb).mono (fun _ _ h => retF_nil h))
theorem bk_shl_NN {xa : JV} {aa ba : Int} {xb : JV} {ab bb : Int} (w : World) (hL : Hid (Lai w)) (hva : Hid (Vldo w (VV k8 p8 q8 g8 A8 C8 n8 c8 m8 d8 r8) (VV ka pa qa ga Aa Ca na ca ma da ra))) (hvb : Hid (Vldo w (VV k7 p7 q7 g7 A7 C7 n7 c7 m7 d7 r7) (VV kb pb qb gb Ab Cb nb cb mb db rb))) (hxa : Hid (NV w (VV ka pa qa ga Aa Ca na ca ma da ra) xa)) (hJa : Hid (numJ xa = ⟨aa, ba, 0⟩)) (nba : ∀ z, xa ≠ .big z) (hxb : Hid (NV w (VV kb pb qb gb Ab Cb nb cb mb db rb) xb)) (hJb : Hid (numJ xb = ⟨ab, bb, 0⟩)) (nbb : ∀ z, xb ≠ .big z) {x y : Int} (h : Hid (bitR 4 aa ba ab bb = ⟨x, y⟩)) (vr : IsV x y) : Calls Tryz.prog 18 #[.string ⟨#[60, 60]⟩, VV k8 p8 q8 g8 A8 C8 n8 c8 m8 d8 r8, VV k7 p7 q7 g7 A7 C7 n7 c7 m7 d7 r7] w (RetF (FJ (.num x y) 0) w) :=
  bin_shl w hva hvb (FJ.stab _ _) (fun w1 h1 => (bits_NN_shl w1 (Lib.hid (hL.out.plus h1)) (Lib.hid (hxa.out.plus h1)) hJa nba (Lib.hid (hxb.out.plus h1)) hJb nbb h).mono (fun _ _ h => retF_num vr h))
theorem bk_shl_NB {xa : JV} {aa ba : Int} {zb : Int} (w : World) (hL : Hid (Lai w)) (hva : Hid (Vldo w (VV k8 p8 q8 g8 A8 C8 n8 c8 m8 d8 r8) (VV ka pa qa ga Aa Ca na ca ma da ra))) (hvb : Hid (Vldo w (VV k7 p7 q7 g7 A7 C7 n7 c7 m7 d7 r7) (VV kb pb qb gb Ab Cb nb cb mb db rb))) (hxa : Hid (NV w (VV ka pa qa ga Aa Ca na ca ma da ra) xa)) (hJa : Hid (numJ xa = ⟨aa, ba, 0⟩)) (nba : ∀ z, xa ≠ .big z) (hxb : Hid (NV w (VV kb pb qb gb Ab Cb nb cb mb db rb) (.big zb))) : Calls Tryz.prog 18 #[.string ⟨#[60, 60]⟩, VV k8 p8 q8 g8 A8 C8 n8 c8 m8 d8 r8, VV k7 p7 q7 g7 A7 C7 n7 c7 m7 d7 r7] w (RetF (FJ .undef 1) w) :=
  bin_shl w hva hvb (FJ.stab _ _) (fun w1 h1 => (bits_NB w1 (Lib.hid (hL.out.plus h1)) (Lib.hid (hxa.out.plus h1)) hJa nba (Lib.hid (hxb.out.plus h1))).mono (fun _ _ h => retF_nil h))
theorem bk_shl_BN {za : Int} {xb : JV} {ab bb : Int} (w : World) (hL : Hid (Lai w)) (hva : Hid (Vldo w (VV k8 p8 q8 g8 A8 C8 n8 c8 m8 d8 r8) (VV ka pa qa ga Aa Ca na ca ma da ra))) (hvb : Hid (Vldo w (VV k7 p7 q7 g7 A7 C7 n7 c7 m7 d7 r7) (VV kb pb qb gb Ab Cb nb cb mb db rb))) (hxa : Hid (NV w (VV ka pa qa ga Aa Ca na ca ma da ra) (.big za))) (hxb : Hid (NV w (VV kb pb qb gb Ab Cb nb cb mb db rb) xb)) (hJb : Hid (numJ xb = ⟨ab, bb, 0⟩)) (nbb : ∀ z, xb ≠ .big z) : Calls Tryz.prog 18 #[.string ⟨#[60, 60]⟩, VV k8 p8 q8 g8 A8 C8 n8 c8 m8 d8 r8, VV k7 p7 q7 g7 A7 C7 n7 c7 m7 d7 r7] w (RetF (FJ .undef 1) w) :=
  bin_shl w hva hvb (FJ.stab _ _) (fun w1 h1 => (bits_BN w1 (Lib.hid (hL.out.plus h1)) (Lib.hid (hxa.out.plus h1)) (Lib.hid (hxb.out.plus h1)) hJb nbb).mono (fun _ _ h => retF_nil h))
theorem bk_shl_BB {za : Int} {zb : Int} (w : World) (hL : Hid (Lai w)) (hva : Hid (Vldo w (VV k8 p8 q8 g8 A8 C8 n8 c8 m8 d8 r8) (VV ka pa qa ga Aa Ca na ca ma da ra))) (hvb : Hid (Vldo w (VV k7 p7 q7 g7 A7 C7 n7 c7 m7 d7 r7) (VV kb pb qb gb Ab Cb nb cb mb db rb))) (hxa : Hid (NV w (VV ka pa qa ga Aa Ca na ca ma da ra) (.big za))) (hxb : Hid (NV w (VV kb pb qb gb Ab Cb nb cb mb db rb) (.big zb))) : Calls Tryz.prog 18 #[.string ⟨#[60, 60]⟩, VV k8 p8 q8 g8 A8 C8 n8 c8 m8 d8 r8, VV k7 p7 q7 g7 A7 C7 n7 c7 m7 d7 r7] w (RetF (FJ .undef 3) w) :=
  bin_shl w hva hvb (FJ.stab _ _) (fun w1 h1 => (bits_BB_shl w1 (Lib.hid (hL.out.plus h1)) (Lib.hid (hxa.out.plus h1)) (Lib.hid (hxb.out.plus h1))).mono (fun _ _ h => retF_nil h))
theorem bk_shr_SX {xa : JV} {aa ba sa : Int} (w : World) (hL : Hid (Lai w)) (hva : Hid (Vldo w (VV k8 p8 q8 g8 A8 C8 n8 c8 m8 d8 r8) (VV ka pa qa ga Aa Ca na ca ma da ra))) (hvb : Hid (Vldo w (VV k7 p7 q7 g7 A7 C7 n7 c7 m7 d7 r7) (VV kb pb qb gb Ab Cb nb cb mb db rb))) (hxa : Hid (NV w (VV ka pa qa ga Aa Ca na ca ma da ra) xa)) (hJa : Hid (numJ xa = ⟨aa, ba, sa⟩)) (nba : ∀ z, xa ≠ .big z) (hsa : (sa != 0) = true) : Calls Tryz.prog 18 #[.string ⟨#[62, 62]⟩, VV k8 p8 q8 g8 A8 C8 n8 c8 m8 d8 r8, VV k7 p7 q7 g7 A7 C7 n7 c7 m7 d7 r7] w (RetF (FJ .undef sa) w) :=
  bin_shr w hva hvb (FJ.stab _ _) (fun w1 h1 => (bits_SX w1 (Lib.hid (hL.out.plus h1)) (Lib.hid (hxa.out.plus h1)) hJa nba hsa).mono (fun _ _ h => retF_nil h))
theorem bk_shr_NS {xa : JV} {aa ba : Int} {xb : JV} {ab bb sb : Int} (w : World) (hL : Hid (Lai w)) (hva : Hid (Vldo w (VV k8 p8 q8 g8 A8 C8 n8 c8 m8 d8 r8) (VV ka pa qa ga Aa Ca na ca ma da ra))) (hvb : Hid (Vldo w (VV k7 p7 q7 g7 A7 C7 n7 c7 m7 d7 r7) (VV kb pb qb gb Ab Cb nb cb mb db rb))) (hxa : Hid (NV w (VV ka pa qa ga Aa Ca na ca ma da ra) xa)) (hJa : Hid (numJ xa = ⟨aa, ba, 0⟩)) (nba : ∀ z, xa ≠ .big z) (hxb : Hid (NV w (VV kb pb qb gb Ab Cb nb cb mb db rb) xb)) (hJb : Hid (numJ xb = ⟨ab, bb, sb⟩)) (nbb : ∀ z, xb ≠ .big z) (hsb : (sb != 0) = true) : Calls Tryz.prog 18 #[.string ⟨#[62, 62]⟩, VV k8 p8 q8 g8 A8 C8 n8 c8 m8 d8 r8, VV k7 p7 q7 g7 A7 C7 n7 c7 m7 d7 r7] w (RetF (FJ .undef sb) w) :=
  bin_shr w hva hvb (FJ.stab _ _) (fun w1 h1 => (bits_NS w1 (Lib.hid (hL.out.plus h1)) (Lib.hid (hxa.out.plus h1)) hJa nba (Lib.hid (hxb.out.plus h1)) hJb nbb hsb).mono (fun _ _ h => retF_nil h))
theorem bk_shr_BS {za : Int} {xb : JV} {ab bb sb : Int} (w : World) (hL : Hid (Lai w)) (hva : Hid (Vldo w (VV k8 p8 q8 g8 A8 C8 n8 c8 m8 d8 r8) (VV ka pa qa ga Aa Ca na ca ma da ra))) (hvb : Hid (Vldo w (VV k7 p7 q7 g7 A7 C7 n7 c7 m7 d7 r7) (VV kb pb qb gb Ab Cb nb cb mb db rb))) (hxa : Hid (NV w (VV ka pa qa ga Aa Ca na ca ma da ra) (.big za))) (hxb : Hid (NV w (VV kb pb qb gb Ab Cb nb cb mb db rb) xb)) (hJb : Hid (numJ xb = ⟨ab, bb, sb⟩)) (nbb : ∀ z, xb ≠ .big z) (hsb : (sb != 0) = true) : Calls Tryz.prog 18 #[.string ⟨#[62, 62]⟩, VV k8 p8 q8 g8 A8 C8 n8 c8 m8 d8 r8, VV k7 p7 q7 g7 A7 C7 n7 c7 m7 d7 r7] w (RetF (FJ .undef sb) w) :=
  bin_shr w hva hvb (FJ.stab _ _) (fun w1 h1 => (bits_BS w1 (Lib.hid (hL.out.plus h1)) (Lib.hid (hxa.out.plus h1)) (Lib.hid (hxb.out.plus h1)) hJb nbb hsb).mono (fun _ _ h => retF_nil h))
theorem bk_shr_NN {xa : JV} {aa ba : Int} {xb : JV} {ab bb : Int} (w : World) (hL : Hid (Lai w)) (hva : Hid (Vldo w (VV k8 p8 q8 g8 A8 C8 n8 c8 m8 d8 r8) (VV ka pa qa ga Aa Ca na ca ma da ra))) (hvb : Hid (Vldo w (VV k7 p7 q7 g7 A7 C7 n7 c7 m7 d7 r7) (VV kb pb qb gb Ab Cb nb cb mb db rb))) (hxa : Hid (NV w (VV ka pa qa ga Aa Ca na ca ma da ra) xa)) (hJa : Hid (numJ xa = ⟨aa, ba, 0⟩)) (nba : ∀ z, xa ≠ .big z) (hxb : Hid (NV w (VV kb pb qb gb Ab Cb nb cb mb db rb) xb)) (hJb : Hid (numJ xb = ⟨ab, bb, 0⟩)) (nbb : ∀ z, xb ≠ .big z) {x y : Int} (h : Hid (bitR 5 aa ba ab bb = ⟨x, y⟩)) (vr : IsV x y) : Calls Tryz.prog 18 #[.string ⟨#[62, 62]⟩, VV k8 p8 q8 g8 A8 C8 n8 c8 m8 d8 r8, VV k7 p7 q7 g7 A7 C7 n7 c7 m7 d7 r7] w (RetF (FJ (.num x y) 0) w) :=
  bin_shr w hva hvb (FJ.stab _ _) (fun w1 h1 => (bits_NN_shr w1 (Lib.hid (hL.out.plus h1)) (Lib.hid (hxa.out.plus h1)) hJa nba (Lib.hid (hxb.out.plus h1)) hJb nbb h).mono (fun _ _ h => retF_num vr h))
theorem bk_shr_NB {xa : JV} {aa ba : Int} {zb : Int} (w : World) (hL : Hid (Lai w)) (hva : Hid (Vldo w (VV k8 p8 q8 g8 A8 C8 n8 c8 m8 d8 r8) (VV ka pa qa ga Aa Ca na ca ma da ra))) (hvb : Hid (Vldo w (VV k7 p7 q7 g7 A7 C7 n7 c7 m7 d7 r7) (VV kb pb qb gb Ab Cb nb cb mb db rb))) (hxa : Hid (NV w (VV ka pa qa ga Aa Ca na ca ma da ra) xa)) (hJa : Hid (numJ xa = ⟨aa, ba, 0⟩)) (nba : ∀ z, xa ≠ .big z) (hxb : Hid (NV w (VV kb pb qb gb Ab Cb nb cb mb db rb) (.big zb))) : Calls Tryz.prog 18 #[.string ⟨#[62, 62]⟩, VV k8 p8 q8 g8 A8 C8 n8 c8 m8 d8 r8, VV k7 p7 q7 g7 A7 C7 n7 c7 m7 d7 r7] w (RetF (FJ .undef 1) w) :=
  bin_shr w hva hvb (FJ.stab _ _) (fun w1 h1 => (bits_NB w1 (Lib.hid (hL.out.plus h1)) (Lib.hid (hxa.out.plus h1)) hJa nba (Lib.hid (hxb.out.plus h1))).mono (fun _ _ h => retF_nil h))
theorem bk_shr_BN {za : Int} {xb : JV} {ab bb : Int} (w : World) (hL : Hid (Lai w)) (hva : Hid (Vldo w (VV k8 p8 q8 g8 A8 C8 n8 c8 m8 d8 r8) (VV ka pa qa ga Aa Ca na ca ma da ra))) (hvb : Hid (Vldo w (VV k7 p7 q7 g7 A7 C7 n7 c7 m7 d7 r7) (VV kb pb qb gb Ab Cb nb cb mb db rb))) (hxa : Hid (NV w (VV ka pa qa ga Aa Ca na ca ma da ra) (.big za))) (hxb : Hid (NV w (VV kb pb qb gb Ab Cb nb cb mb db rb) xb)) (hJb : Hid (numJ xb = ⟨ab, bb, 0⟩)) (nbb : ∀ z, xb ≠ .big z) : Calls Tryz.prog 18 #[.string ⟨#[62, 62]⟩, VV k8 p8 q8 g8 A8 C8 n8 c8 m8 d8 r8, VV k7 p7 q7 g7 A7 C7 n7 c7 m7 d7 r7] w (RetF (FJ .undef 1) w) :=
  bin_shr w hva hvb (FJ.stab _ _) (fun w1 h1 => (bits_BN w1 (Lib.hid (hL.out.plus h1)) (Lib.hid (hxa.out.plus h1)) (Lib.hid (hxb.out.plus h1)) hJb nbb).mono (fun _ _ h => retF_nil h))
theorem bk_shr_BB {za : Int} {zb : Int} (w : World) (hL : Hid (Lai w)) (hva : Hid (Vldo w (VV k8 p8 q8 g8 A8 C8 n8 c8 m8 d8 r8) (VV ka pa qa ga Aa Ca na ca ma da ra))) (hvb : Hid (Vldo w (VV k7 p7 q7 g7 A7 C7 n7 c7 m7 d7 r7) (VV kb pb qb gb Ab Cb nb cb mb db rb))) (hxa : Hid (NV w (VV ka pa qa ga Aa Ca na ca ma da ra) (.big za))) (hxb : Hid (NV w (VV kb pb qb gb Ab Cb nb cb mb db rb) (.big zb))) : Calls Tryz.prog 18 #[.string ⟨#[62, 62]⟩, VV k8 p8 q8 g8 A8 C8 n8 c8 m8 d8 r8, VV k7 p7 q7 g7 A7 C7 n7 c7 m7 d7 r7] w (RetF (FJ .undef 3) w) :=
  bin_shr w hva hvb (FJ.stab _ _) (fun w1 h1 => (bits_BB_shr w1 (Lib.hid (hL.out.plus h1)) (Lib.hid (hxa.out.plus h1)) (Lib.hid (hxb.out.plus h1))).mono (fun _ _ h => retF_nil h))
theorem bk_ushr_SX {xa : JV} {aa ba sa : Int} (w : World) (hL : Hid (Lai w)) (hva : Hid (Vldo w (VV k8 p8 q8 g8 A8 C8 n8 c8 m8 d8 r8) (VV ka pa qa ga Aa Ca na ca ma da ra))) (hvb : Hid (Vldo w (VV k7 p7 q7 g7 A7 C7 n7 c7 m7 d7 r7) (VV kb pb qb gb Ab Cb nb cb mb db rb))) (hxa : Hid (NV w (VV ka pa qa ga Aa Ca na ca ma da ra) xa)) (hJa : Hid (numJ xa = ⟨aa, ba, sa⟩)) (nba : ∀ z, xa ≠ .big z) (hsa : (sa != 0) = true) : Calls Tryz.prog 18 #[.string ⟨#[62, 62, 62]⟩, VV k8 p8 q8 g8 A8 C8 n8 c8 m8 d8 r8, VV k7 p7 q7 g7 A7 C7 n7 c7 m7 d7 r7] w (RetF (FJ .undef sa) w) :=
  bin_ushr w hva hvb (FJ.stab _ _) (fun w1 h1 => (bits_SX w1 (Lib.hid (hL.out.plus h1)) (Lib.hid (hxa.out.plus h1)) hJa nba hsa).mono (fun _ _ h => retF_nil h))
theorem bk_ushr_NS {xa : JV} {aa ba : Int} {xb : JV} {ab bb sb : Int} (w : World) (hL : Hid (Lai w)) (hva : Hid (Vldo w (VV k8 p8 q8 g8 A8 C8 n8 c8 m8 d8 r8) (VV ka pa qa ga Aa Ca na ca ma da ra))) (hvb : Hid (Vldo w (VV k7 p7 q7 g7 A7 C7 n7 c7 m7 d7 r7) (VV kb pb qb gb Ab Cb nb cb mb db rb))) (hxa : Hid (NV w (VV ka pa qa ga Aa Ca na ca ma da ra) xa)) (hJa : Hid (numJ xa = ⟨aa, ba, 0⟩)) (nba : ∀ z, xa ≠ .big z) (hxb : Hid (NV w (VV kb pb qb gb Ab Cb nb cb mb db rb) xb)) (hJb : Hid (numJ xb = ⟨ab, bb, sb⟩)) (nbb : ∀ z, xb ≠ .big z) (hsb : (sb != 0) = true) : Calls Tryz.prog 18 #[.string ⟨#[62, 62, 62]⟩, VV k8 p8 q8 g8 A8 C8 n8 c8 m8 d8 r8, VV k7 p7 q7 g7 A7 C7 n7 c7 m7 d7 r7] w (RetF (FJ .undef sb) w) :=
  bin_ushr w hva hvb (FJ.stab _ _) (fun w1 h1 => (bits_NS w1 (Lib.hid (hL.out.plus h1)) (Lib.hid (hxa.out.plus h1)) hJa nba (Lib.hid (hxb.out.plus h1)) hJb nbb hsb).mono (fun _ _ h => retF_nil h))
theorem bk_ushr_BS {za : Int} {xb : JV} {ab bb sb : Int} (w : World) (hL : Hid (Lai w)) (hva : Hid (Vldo w (VV k8 p8 q8 g8 A8 C8 n8 c8 m8 d8 r8) (VV ka pa qa ga Aa Ca na ca ma da ra))) (hvb : Hid (Vldo w (VV k7 p7 q7 g7 A7 C7 n7 c7 m7 d7 r7) (VV kb pb qb gb Ab Cb nb cb mb db rb))) (hxa : Hid (NV w (VV ka pa qa ga Aa Ca na ca ma da ra) (.big za))) (hxb : Hid (NV w (VV kb pb qb gb Ab Cb nb cb mb db rb) xb)) (hJb : Hid (numJ xb = ⟨ab, bb, sb⟩)) (nbb : ∀ z, xb ≠ .big z) (hsb : (sb != 0) = true) : Calls Tryz.prog 18 #[.string ⟨#[62, 62, 62]⟩, VV k8 p8 q8 g8 A8 C8 n8 c8 m8 d8 r8, VV k7 p7 q7 g7 A7 C7 n7 c7 m7 d7 r7] w (RetF (FJ .undef sb) w) :=
  bin_ushr w hva hvb (FJ.stab _ _) (fun w1 h1 => (bits_BS w1 (Lib.hid (hL.out.plus h1)) (Lib.hid (hxa.out.plus h1)) (Lib.hid (hxb.out.plus h1)) hJb nbb hsb).mono (fun _ _ h => retF_nil h))
theorem bk_ushr_NN {xa : JV} {aa ba : Int} {xb : JV} {ab bb : Int} (w : World) (hL : Hid (Lai w)) (hva : Hid (Vldo w (VV k8 p8 q8 g8 A8 C8 n8 c8 m8 d8 r8) (VV ka pa qa ga Aa Ca na ca ma da ra))) (hvb : Hid (Vldo w (VV k7 p7 q7 g7 A7 C7 n7 c7 m7 d7 r7) (VV kb pb qb gb Ab Cb nb cb mb db rb))) (hxa : Hid (NV w (VV ka pa qa ga Aa Ca na ca ma da ra) xa)) (hJa : Hid (numJ xa = ⟨aa, ba, 0⟩)) (nba : ∀ z, xa ≠ .big z) (hxb : Hid (NV w (VV kb pb qb gb Ab Cb nb cb mb db rb) xb)) (hJb : Hid (numJ xb = ⟨ab, bb, 0⟩)) (nbb : ∀ z, xb ≠ .big z) {x y : Int} (h : Hid (bitR 6 aa ba ab bb = ⟨x, y⟩)) (vr : IsV x y) : Calls Tryz.prog 18 #[.string ⟨#[62, 62, 62]⟩, VV k8 p8 q8 g8 A8 C8 n8 c8 m8 d8 r8, VV k7 p7 q7 g7 A7 C7 n7 c7 m7 d7 r7] w (RetF (FJ (.num x y) 0) w) :=
  bin_ushr w hva hvb (FJ.stab _ _) (fun w1 h1 => (bits_NN_ushr w1 (Lib.hid (hL.out.plus h1)) (Lib.hid (hxa.out.plus h1)) hJa nba (Lib.hid (hxb.out.plus h1)) hJb nbb h).mono (fun _ _ h => retF_num vr h))
theorem bk_ushr_NB {xa : JV} {aa ba : Int} {zb : Int} (w : World) (hL : Hid (Lai w)) (hva : Hid (Vldo w (VV k8 p8 q8 g8 A8 C8 n8 c8 m8 d8 r8) (VV ka pa qa ga Aa Ca na ca ma da ra))) (hvb : Hid (Vldo w (VV k7 p7 q7 g7 A7 C7 n7 c7 m7 d7 r7) (VV kb pb qb gb Ab Cb nb cb mb db rb))) (hxa : Hid (NV w (VV ka pa qa ga Aa Ca na ca ma da ra) xa)) (hJa : Hid (numJ xa = ⟨aa, ba, 0⟩)) (nba : ∀ z, xa ≠ .big z) (hxb : Hid (NV w (VV kb pb qb gb Ab Cb nb cb mb db rb) (.big zb))) : Calls Tryz.prog 18 #[.string ⟨#[62, 62, 62]⟩, VV k8 p8 q8 g8 A8 C8 n8 c8 m8 d8 r8, VV k7 p7 q7 g7 A7 C7 n7 c7 m7 d7 r7] w (RetF (FJ .undef 1) w) :=
  bin_ushr w hva hvb (FJ.stab _ _) (fun w1 h1 => (bits_NB w1 (Lib.hid (hL.out.plus h1)) (Lib.hid (hxa.out.plus h1)) hJa nba (Lib.hid (hxb.out.plus h1))).mono (fun _ _ h => retF_nil h))
theorem bk_ushr_BN {za : Int} {xb : JV} {ab bb : Int} (w : World) (hL : Hid (Lai w)) (hva : Hid (Vldo w (VV k8 p8 q8 g8 A8 C8 n8 c8 m8 d8 r8) (VV ka pa qa ga Aa Ca na ca ma da ra))) (hvb : Hid (Vldo w (VV k7 p7 q7 g7 A7 C7 n7 c7 m7 d7 r7) (VV kb pb qb gb Ab Cb nb cb mb db rb))) (hxa : Hid (NV w (VV ka pa qa ga Aa Ca na ca ma da ra) (.big za))) (hxb : Hid (NV w (VV kb pb qb gb Ab Cb nb cb mb db rb) xb)) (hJb : Hid (numJ xb = ⟨ab, bb, 0⟩)) (nbb : ∀ z, xb ≠ .big z) : Calls Tryz.prog 18 #[.string ⟨#[62, 62, 62]⟩, VV k8 p8 q8 g8 A8 C8 n8 c8 m8 d8 r8, VV k7 p7 q7 g7 A7 C7 n7 c7 m7 d7 r7] w (RetF (FJ .undef 1) w) :=
  bin_ushr w hva hvb (FJ.stab _ _) (fun w1 h1 => (bits_BN w1 (Lib.hid (hL.out.plus h1)) (Lib.hid (hxa.out.plus h1)) (Lib.hid (hxb.out.plus h1)) hJb nbb).mono (fun _ _ h => retF_nil h))
theorem bk_ushr_BB {za : Int} {zb : Int} (w : World) (hL : Hid (Lai w)) (hva : Hid (Vldo w (VV k8 p8 q8 g8 A8 C8 n8 c8 m8 d8 r8) (VV ka pa qa ga Aa Ca na ca ma da ra))) (hvb : Hid (Vldo w (VV k7 p7 q7 g7 A7 C7 n7 c7 m7 d7 r7) (VV kb pb qb gb Ab Cb nb cb mb db rb))) (hxa : Hid (NV w (VV ka pa qa ga Aa Ca na ca ma da ra) (.big za))) (hxb : Hid (NV w (VV kb pb qb gb Ab Cb nb cb mb db rb) (.big zb))) : Calls Tryz.prog 18 #[.string ⟨#[62, 62, 62]⟩, VV k8 p8 q8 g8 A8 C8 n8 c8 m8 d8 r8, VV k7 p7 q7 g7 A7 C7 n7 c7 m7 d7 r7] w (RetF (FJ .undef 1) w) :=
  bin_ushr w hva hvb (FJ.stab _ _) (fun w1 h1 => (bits_BB_ushr w1 (Lib.hid (hL.out.plus h1)) (Lib.hid (hxa.out.plus h1)) (Lib.hid (hxb.out.plus h1))).mono (fun _ _ h => retF_nil h))
theorem bk_txt_y {xa : JV} {tsa : List Nat} {ma4 : Nat} {xb : JV} {tsb : List Nat} {mb4 : Nat} {n : Nat} (w : World) (hL : Hid (Lai w)) (hva : Hid (Vldo w (VV k8 p8 q8 g8 A8 C8 n8 c8 m8 d8 r8) (VV ka pa qa ga Aa Ca na ca ma da ra))) (hvb : Hid (Vldo w (VV k7 p7 q7 g7 A7 C7 n7 c7 m7 d7 r7) (VV kb pb qb gb Ab Cb nb cb mb db rb))) (hxa : Hid (NV w (VV ka pa qa ga Aa Ca na ca ma da ra) xa)) (hta : Hid (txtJ xa = ⟨tsa, 0⟩ ∧ ma4 = tsa.length)) (hxb : Hid (NV w (VV kb pb qb gb Ab Cb nb cb mb db rb) xb)) (htb : Hid (txtJ xb = ⟨tsb, 0⟩ ∧ mb4 = tsb.length)) (he : ((ka == 5) || (kb == 5)) = true) (l1 : ma4 ≤ 4096) (l2 : mb4 ≤ 4096) (hn : Hid (n = ma4 + mb4)) (hn4 : n ≤ 4096) (hl : ¬ ((4096 : Int) < (ma4 : Int) + mb4)) : Calls Tryz.prog 18 #[.string ⟨#[43]⟩, VV k8 p8 q8 g8 A8 C8 n8 c8 m8 d8 r8, VV k7 p7 q7 g7 A7 C7 n7 c7 m7 d7 r7] w (RetF (FJ (.text (tsa ++ tsb)) 0) w) :=
  bin_add w hva hvb (FJ.stab _ _) (fun w0 h0 => plus_t w0 (FJ.stab _ _) he (fun w1 h1 => joined_y w1 (Lib.hid (hL.out.plus (h0.trans h1))) (Lib.hid (hxa.out.plus (h0.trans h1))) hta (Lib.hid (hxb.out.plus (h0.trans h1))) htb l1 l2 hn hn4 hl))
theorem bk_txt_l {xa : JV} {tsa : List Nat} {ma4 : Nat} {xb : JV} {tsb : List Nat} {mb4 : Nat} (w : World) (hL : Hid (Lai w)) (hva : Hid (Vldo w (VV k8 p8 q8 g8 A8 C8 n8 c8 m8 d8 r8) (VV ka pa qa ga Aa Ca na ca ma da ra))) (hvb : Hid (Vldo w (VV k7 p7 q7 g7 A7 C7 n7 c7 m7 d7 r7) (VV kb pb qb gb Ab Cb nb cb mb db rb))) (hxa : Hid (NV w (VV ka pa qa ga Aa Ca na ca ma da ra) xa)) (hta : Hid (txtJ xa = ⟨tsa, 0⟩ ∧ ma4 = tsa.length)) (hxb : Hid (NV w (VV kb pb qb gb Ab Cb nb cb mb db rb) xb)) (htb : Hid (txtJ xb = ⟨tsb, 0⟩ ∧ mb4 = tsb.length)) (he : ((ka == 5) || (kb == 5)) = true) (l1 : ma4 ≤ 4096) (l2 : mb4 ≤ 4096) (hl : (4096 : Int) < (ma4 : Int) + mb4) : Calls Tryz.prog 18 #[.string ⟨#[43]⟩, VV k8 p8 q8 g8 A8 C8 n8 c8 m8 d8 r8, VV k7 p7 q7 g7 A7 C7 n7 c7 m7 d7 r7] w (RetF (FJ .undef 3) w) :=
  bin_add w hva hvb (FJ.stab _ _) (fun w0 h0 => plus_t w0 (FJ.stab _ _) he (fun w1 h1 => (joined_l w1 (Lib.hid (hL.out.plus (h0.trans h1))) (Lib.hid (hxa.out.plus (h0.trans h1))) hta (Lib.hid (hxb.out.plus (h0.trans h1))) htb l1 l2 hl).mono (fun _ _ h => retF_nil h)))
theorem bk_txt_s1 {xa : JV} {tsa : List Nat} {sa : Int} {ma4 : Nat} (w : World) (hL : Hid (Lai w)) (hva : Hid (Vldo w (VV k8 p8 q8 g8 A8 C8 n8 c8 m8 d8 r8) (VV ka pa qa ga Aa Ca na ca ma da ra))) (hvb : Hid (Vldo w (VV k7 p7 q7 g7 A7 C7 n7 c7 m7 d7 r7) (VV kb pb qb gb Ab Cb nb cb mb db rb))) (hxa : Hid (NV w (VV ka pa qa ga Aa Ca na ca ma da ra) xa)) (hta : Hid (txtJ xa = ⟨tsa, sa⟩ ∧ ma4 = tsa.length)) (he : ((ka == 5) || (kb == 5)) = true) (hs : (sa != 0) = true) : Calls Tryz.prog 18 #[.string ⟨#[43]⟩, VV k8 p8 q8 g8 A8 C8 n8 c8 m8 d8 r8, VV k7 p7 q7 g7 A7 C7 n7 c7 m7 d7 r7] w (RetF (FJ .undef sa) w) :=
  bin_add w hva hvb (FJ.stab _ _) (fun w0 h0 => plus_t w0 (FJ.stab _ _) he (fun w1 h1 => (joined_s1 w1 (Lib.hid (hL.out.plus (h0.trans h1))) (Lib.hid (hxa.out.plus (h0.trans h1))) hta hs).mono (fun _ _ h => retF_nil h)))
theorem bk_txt_s2 {xa : JV} {tsa : List Nat} {ma4 : Nat} {xb : JV} {tsb : List Nat} {sb : Int} {mb4 : Nat} (w : World) (hL : Hid (Lai w)) (hva : Hid (Vldo w (VV k8 p8 q8 g8 A8 C8 n8 c8 m8 d8 r8) (VV ka pa qa ga Aa Ca na ca ma da ra))) (hvb : Hid (Vldo w (VV k7 p7 q7 g7 A7 C7 n7 c7 m7 d7 r7) (VV kb pb qb gb Ab Cb nb cb mb db rb))) (hxa : Hid (NV w (VV ka pa qa ga Aa Ca na ca ma da ra) xa)) (hta : Hid (txtJ xa = ⟨tsa, 0⟩ ∧ ma4 = tsa.length)) (hxb : Hid (NV w (VV kb pb qb gb Ab Cb nb cb mb db rb) xb)) (htb : Hid (txtJ xb = ⟨tsb, sb⟩ ∧ mb4 = tsb.length)) (he : ((ka == 5) || (kb == 5)) = true) (hs : (sb != 0) = true) : Calls Tryz.prog 18 #[.string ⟨#[43]⟩, VV k8 p8 q8 g8 A8 C8 n8 c8 m8 d8 r8, VV k7 p7 q7 g7 A7 C7 n7 c7 m7 d7 r7] w (RetF (FJ .undef sb) w) :=
  bin_add w hva hvb (FJ.stab _ _) (fun w0 h0 => plus_t w0 (FJ.stab _ _) he (fun w1 h1 => (joined_s2 w1 (Lib.hid (hL.out.plus (h0.trans h1))) (Lib.hid (hxa.out.plus (h0.trans h1))) hta (Lib.hid (hxb.out.plus (h0.trans h1))) htb hs).mono (fun _ _ h => retF_nil h)))
theorem retF_bool {b : Bool} {w : World} {e : Ending} {w' : World} (h : e = .returned (.tuple #[Value.agg #[.int .i64 2, .int .i64 0, .int .i64 0, .bool false, .slice none 0 0, .slice none 0 0, .int .i64 (bit b)], .int .i64 0]) ∧ Plus w w') : RetF (FJ (.bool b) 0) w e w' :=
  ⟨2, 0, 0, false, none, none, 0, 0, 0, 0, bit b, 0, h.1, ⟨⟨none, none, 0, 0, rfl, by omega, by omega⟩, rfl⟩, h.2⟩
theorem bk_lt {l1 l2 : Bool} (w : World) (hva : Hid (Vldo w (VV k8 p8 q8 g8 A8 C8 n8 c8 m8 d8 r8) (VV ka pa qa ga Aa Ca na ca ma da ra))) (hvb : Hid (Vldo w (VV k7 p7 q7 g7 A7 C7 n7 c7 m7 d7 r7) (VV kb pb qb gb Ab Cb nb cb mb db rb))) (HC : CmpN false false (VV ka pa qa ga Aa Ca na ca ma da ra) (VV kb pb qb gb Ab Cb nb cb mb db rb) l1 l2 w) : Calls Tryz.prog 18 #[.string ⟨#[60]⟩, VV k8 p8 q8 g8 A8 C8 n8 c8 m8 d8 r8, VV k7 p7 q7 g7 A7 C7 n7 c7 m7 d7 r7] w (RetF (FJ (.bool l1) 0) w) :=
  bin_lt w hva hvb (FJ.stab _ _) (fun w1 h1 => (order_lt w1 (HC.plus h1)).mono (fun _ _ h => retF_bool h))
theorem bk_lt_nan1 {b3 l1 l2 : Bool} (w : World) (hva : Hid (Vldo w (VV k8 p8 q8 g8 A8 C8 n8 c8 m8 d8 r8) (VV ka pa qa ga Aa Ca na ca ma da ra))) (hvb : Hid (Vldo w (VV k7 p7 q7 g7 A7 C7 n7 c7 m7 d7 r7) (VV kb pb qb gb Ab Cb nb cb mb db rb))) (HC : CmpN true b3 (VV ka pa qa ga Aa Ca na ca ma da ra) (VV kb pb qb gb Ab Cb nb cb mb db rb) l1 l2 w) : Calls Tryz.prog 18 #[.string ⟨#[60]⟩, VV k8 p8 q8 g8 A8 C8 n8 c8 m8 d8 r8, VV k7 p7 q7 g7 A7 C7 n7 c7 m7 d7 r7] w (RetF (FJ (.bool false) 0) w) :=
  bin_lt w hva hvb (FJ.stab _ _) (fun w1 h1 => (order_nan1 w1 (HC.plus h1)).mono (fun _ _ h => retF_bool h))
theorem bk_lt_nan2 {l1 l2 : Bool} (w : World) (hva : Hid (Vldo w (VV k8 p8 q8 g8 A8 C8 n8 c8 m8 d8 r8) (VV ka pa qa ga Aa Ca na ca ma da ra))) (hvb : Hid (Vldo w (VV k7 p7 q7 g7 A7 C7 n7 c7 m7 d7 r7) (VV kb pb qb gb Ab Cb nb cb mb db rb))) (HC : CmpN false true (VV ka pa qa ga Aa Ca na ca ma da ra) (VV kb pb qb gb Ab Cb nb cb mb db rb) l1 l2 w) : Calls Tryz.prog 18 #[.string ⟨#[60]⟩, VV k8 p8 q8 g8 A8 C8 n8 c8 m8 d8 r8, VV k7 p7 q7 g7 A7 C7 n7 c7 m7 d7 r7] w (RetF (FJ (.bool false) 0) w) :=
  bin_lt w hva hvb (FJ.stab _ _) (fun w1 h1 => (order_nan2 w1 (HC.plus h1)).mono (fun _ _ h => retF_bool h))
theorem bk_lt_S {s : Int} (w : World) (hva : Hid (Vldo w (VV k8 p8 q8 g8 A8 C8 n8 c8 m8 d8 r8) (VV ka pa qa ga Aa Ca na ca ma da ra))) (hvb : Hid (Vldo w (VV k7 p7 q7 g7 A7 C7 n7 c7 m7 d7 r7) (VV kb pb qb gb Ab Cb nb cb mb db rb))) (hs : (s != 0) = true) (HC : ∀ w1, Plus w w1 → Calls Tryz.prog 123 #[VV ka pa qa ga Aa Ca na ca ma da ra, VV kb pb qb gb Ab Cb nb cb mb db rb] w1 (fun e w' => e = .returned (.tuple #[Value.agg #[.int .i64 0, .int .i64 0, .int .i64 0, .bool false, .slice none 0 0, .slice none 0 0, .int .i64 0], Value.agg #[.int .i64 0, .int .i64 0, .int .i64 0, .bool false, .slice none 0 0, .slice none 0 0, .int .i64 0], .int .i64 s]) ∧ Plus w1 w')) : Calls Tryz.prog 18 #[.string ⟨#[60]⟩, VV k8 p8 q8 g8 A8 C8 n8 c8 m8 d8 r8, VV k7 p7 q7 g7 A7 C7 n7 c7 m7 d7 r7] w (RetF (FJ .undef s) w) :=
  bin_lt w hva hvb (FJ.stab _ _) (fun w1 h1 => (order_S w1 hs (fun w2 h2 => HC w2 (h1.trans h2))).mono (fun _ _ h => retF_nil h))
theorem bk_gt {l1 l2 : Bool} (w : World) (hva : Hid (Vldo w (VV k8 p8 q8 g8 A8 C8 n8 c8 m8 d8 r8) (VV ka pa qa ga Aa Ca na ca ma da ra))) (hvb : Hid (Vldo w (VV k7 p7 q7 g7 A7 C7 n7 c7 m7 d7 r7) (VV kb pb qb gb Ab Cb nb cb mb db rb))) (HC : CmpN false false (VV ka pa qa ga Aa Ca na ca ma da ra) (VV kb pb qb gb Ab Cb nb cb mb db rb) l1 l2 w) : Calls Tryz.prog 18 #[.string ⟨#[62]⟩, VV k8 p8 q8 g8 A8 C8 n8 c8 m8 d8 r8, VV k7 p7 q7 g7 A7 C7 n7 c7 m7 d7 r7] w (RetF (FJ (.bool l2) 0) w) :=
  bin_gt w hva hvb (FJ.stab _ _) (fun w1 h1 => (order_gt w1 (HC.plus h1)).mono (fun _ _ h => retF_bool h))
theorem bk_gt_nan1 {b3 l1 l2 : Bool} (w : World) (hva : Hid (Vldo w (VV k8 p8 q8 g8 A8 C8 n8 c8 m8 d8 r8) (VV ka pa qa ga Aa Ca na ca ma da ra))) (hvb : Hid (Vldo w (VV k7 p7 q7 g7 A7 C7 n7 c7 m7 d7 r7) (VV kb pb qb gb Ab Cb nb cb mb db rb))) (HC : CmpN true b3 (VV ka pa qa ga Aa Ca na ca ma da ra) (VV kb pb qb gb Ab Cb nb cb mb db rb) l1 l2 w) : Calls Tryz.prog 18 #[.string ⟨#[62]⟩, VV k8 p8 q8 g8 A8 C8 n8 c8 m8 d8 r8, VV k7 p7 q7 g7 A7 C7 n7 c7 m7 d7 r7] w (RetF (FJ (.bool false) 0) w) :=
  bin_gt w hva hvb (FJ.stab _ _) (fun w1 h1 => (order_nan1 w1 (HC.plus h1)).mono (fun _ _ h => retF_bool h))
theorem bk_gt_nan2 {l1 l2 : Bool} (w : World) (hva : Hid (Vldo w (VV k8 p8 q8 g8 A8 C8 n8 c8 m8 d8 r8) (VV ka pa qa ga Aa Ca na ca ma da ra))) (hvb : Hid (Vldo w (VV k7 p7 q7 g7 A7 C7 n7 c7 m7 d7 r7) (VV kb pb qb gb Ab Cb nb cb mb db rb))) (HC : CmpN false true (VV ka pa qa ga Aa Ca na ca ma da ra) (VV kb pb qb gb Ab Cb nb cb mb db rb) l1 l2 w) : Calls Tryz.prog 18 #[.string ⟨#[62]⟩, VV k8 p8 q8 g8 A8 C8 n8 c8 m8 d8 r8, VV k7 p7 q7 g7 A7 C7 n7 c7 m7 d7 r7] w (RetF (FJ (.bool false) 0) w) :=
  bin_gt w hva hvb (FJ.stab _ _) (fun w1 h1 => (order_nan2 w1 (HC.plus h1)).mono (fun _ _ h => retF_bool h))
theorem bk_gt_S {s : Int} (w : World) (hva : Hid (Vldo w (VV k8 p8 q8 g8 A8 C8 n8 c8 m8 d8 r8) (VV ka pa qa ga Aa Ca na ca ma da ra))) (hvb : Hid (Vldo w (VV k7 p7 q7 g7 A7 C7 n7 c7 m7 d7 r7) (VV kb pb qb gb Ab Cb nb cb mb db rb))) (hs : (s != 0) = true) (HC : ∀ w1, Plus w w1 → Calls Tryz.prog 123 #[VV ka pa qa ga Aa Ca na ca ma da ra, VV kb pb qb gb Ab Cb nb cb mb db rb] w1 (fun e w' => e = .returned (.tuple #[Value.agg #[.int .i64 0, .int .i64 0, .int .i64 0, .bool false, .slice none 0 0, .slice none 0 0, .int .i64 0], Value.agg #[.int .i64 0, .int .i64 0, .int .i64 0, .bool false, .slice none 0 0, .slice none 0 0, .int .i64 0], .int .i64 s]) ∧ Plus w1 w')) : Calls Tryz.prog 18 #[.string ⟨#[62]⟩, VV k8 p8 q8 g8 A8 C8 n8 c8 m8 d8 r8, VV k7 p7 q7 g7 A7 C7 n7 c7 m7 d7 r7] w (RetF (FJ .undef s) w) :=
  bin_gt w hva hvb (FJ.stab _ _) (fun w1 h1 => (order_S w1 hs (fun w2 h2 => HC w2 (h1.trans h2))).mono (fun _ _ h => retF_nil h))
theorem bk_le {l1 l2 : Bool} (w : World) (hva : Hid (Vldo w (VV k8 p8 q8 g8 A8 C8 n8 c8 m8 d8 r8) (VV ka pa qa ga Aa Ca na ca ma da ra))) (hvb : Hid (Vldo w (VV k7 p7 q7 g7 A7 C7 n7 c7 m7 d7 r7) (VV kb pb qb gb Ab Cb nb cb mb db rb))) (HC : CmpN false false (VV ka pa qa ga Aa Ca na ca ma da ra) (VV kb pb qb gb Ab Cb nb cb mb db rb) l1 l2 w) : Calls Tryz.prog 18 #[.string ⟨#[60, 61]⟩, VV k8 p8 q8 g8 A8 C8 n8 c8 m8 d8 r8, VV k7 p7 q7 g7 A7 C7 n7 c7 m7 d7 r7] w (RetF (FJ (.bool (!l2)) 0) w) :=
  bin_le w hva hvb (FJ.stab _ _) (fun w1 h1 => (order_le w1 (HC.plus h1)).mono (fun _ _ h => retF_bool h))
theorem bk_le_nan1 {b3 l1 l2 : Bool} (w : World) (hva : Hid (Vldo w (VV k8 p8 q8 g8 A8 C8 n8 c8 m8 d8 r8) (VV ka pa qa ga Aa Ca na ca ma da ra))) (hvb : Hid (Vldo w (VV k7 p7 q7 g7 A7 C7 n7 c7 m7 d7 r7) (VV kb pb qb gb Ab Cb nb cb mb db rb))) (HC : CmpN true b3 (VV ka pa qa ga Aa Ca na ca ma da ra) (VV kb pb qb gb Ab Cb nb cb mb db rb) l1 l2 w) : Calls Tryz.prog 18 #[.string ⟨#[60, 61]⟩, VV k8 p8 q8 g8 A8 C8 n8 c8 m8 d8 r8, VV k7 p7 q7 g7 A7 C7 n7 c7 m7 d7 r7] w (RetF (FJ (.bool false) 0) w) :=
  bin_le w hva hvb (FJ.stab _ _) (fun w1 h1 => (order_nan1 w1 (HC.plus h1)).mono (fun _ _ h => retF_bool h))
theorem bk_le_nan2 {l1 l2 : Bool} (w : World) (hva : Hid (Vldo w (VV k8 p8 q8 g8 A8 C8 n8 c8 m8 d8 r8) (VV ka pa qa ga Aa Ca na ca ma da ra))) (hvb : Hid (Vldo w (VV k7 p7 q7 g7 A7 C7 n7 c7 m7 d7 r7) (VV kb pb qb gb Ab Cb nb cb mb db rb))) (HC : CmpN false true (VV ka pa qa ga Aa Ca na ca ma da ra) (VV kb pb qb gb Ab Cb nb cb mb db rb) l1 l2 w) : Calls Tryz.prog 18 #[.string ⟨#[60, 61]⟩, VV k8 p8 q8 g8 A8 C8 n8 c8 m8 d8 r8, VV k7 p7 q7 g7 A7 C7 n7 c7 m7 d7 r7] w (RetF (FJ (.bool false) 0) w) :=
  bin_le w hva hvb (FJ.stab _ _) (fun w1 h1 => (order_nan2 w1 (HC.plus h1)).mono (fun _ _ h => retF_bool h))
theorem bk_le_S {s : Int} (w : World) (hva : Hid (Vldo w (VV k8 p8 q8 g8 A8 C8 n8 c8 m8 d8 r8) (VV ka pa qa ga Aa Ca na ca ma da ra))) (hvb : Hid (Vldo w (VV k7 p7 q7 g7 A7 C7 n7 c7 m7 d7 r7) (VV kb pb qb gb Ab Cb nb cb mb db rb))) (hs : (s != 0) = true) (HC : ∀ w1, Plus w w1 → Calls Tryz.prog 123 #[VV ka pa qa ga Aa Ca na ca ma da ra, VV kb pb qb gb Ab Cb nb cb mb db rb] w1 (fun e w' => e = .returned (.tuple #[Value.agg #[.int .i64 0, .int .i64 0, .int .i64 0, .bool false, .slice none 0 0, .slice none 0 0, .int .i64 0], Value.agg #[.int .i64 0, .int .i64 0, .int .i64 0, .bool false, .slice none 0 0, .slice none 0 0, .int .i64 0], .int .i64 s]) ∧ Plus w1 w')) : Calls Tryz.prog 18 #[.string ⟨#[60, 61]⟩, VV k8 p8 q8 g8 A8 C8 n8 c8 m8 d8 r8, VV k7 p7 q7 g7 A7 C7 n7 c7 m7 d7 r7] w (RetF (FJ .undef s) w) :=
  bin_le w hva hvb (FJ.stab _ _) (fun w1 h1 => (order_S w1 hs (fun w2 h2 => HC w2 (h1.trans h2))).mono (fun _ _ h => retF_nil h))
theorem bk_ge {l1 l2 : Bool} (w : World) (hva : Hid (Vldo w (VV k8 p8 q8 g8 A8 C8 n8 c8 m8 d8 r8) (VV ka pa qa ga Aa Ca na ca ma da ra))) (hvb : Hid (Vldo w (VV k7 p7 q7 g7 A7 C7 n7 c7 m7 d7 r7) (VV kb pb qb gb Ab Cb nb cb mb db rb))) (HC : CmpN false false (VV ka pa qa ga Aa Ca na ca ma da ra) (VV kb pb qb gb Ab Cb nb cb mb db rb) l1 l2 w) : Calls Tryz.prog 18 #[.string ⟨#[62, 61]⟩, VV k8 p8 q8 g8 A8 C8 n8 c8 m8 d8 r8, VV k7 p7 q7 g7 A7 C7 n7 c7 m7 d7 r7] w (RetF (FJ (.bool (!l1)) 0) w) :=
  bin_ge w hva hvb (FJ.stab _ _) (fun w1 h1 => (order_ge w1 (HC.plus h1)).mono (fun _ _ h => retF_bool h))
theorem bk_ge_nan1 {b3 l1 l2 : Bool} (w : World) (hva : Hid (Vldo w (VV k8 p8 q8 g8 A8 C8 n8 c8 m8 d8 r8) (VV ka pa qa ga Aa Ca na ca ma da ra))) (hvb : Hid (Vldo w (VV k7 p7 q7 g7 A7 C7 n7 c7 m7 d7 r7) (VV kb pb qb gb Ab Cb nb cb mb db rb))) (HC : CmpN true b3 (VV ka pa qa ga Aa Ca na ca ma da ra) (VV kb pb qb gb Ab Cb nb cb mb db rb) l1 l2 w) : Calls Tryz.prog 18 #[.string ⟨#[62, 61]⟩, VV k8 p8 q8 g8 A8 C8 n8 c8 m8 d8 r8, VV k7 p7 q7 g7 A7 C7 n7 c7 m7 d7 r7] w (RetF (FJ (.bool false) 0) w) :=
  bin_ge w hva hvb (FJ.stab _ _) (fun w1 h1 => (order_nan1 w1 (HC.plus h1)).mono (fun _ _ h => retF_bool h))
theorem bk_ge_nan2 {l1 l2 : Bool} (w : World) (hva : Hid (Vldo w (VV k8 p8 q8 g8 A8 C8 n8 c8 m8 d8 r8) (VV ka pa qa ga Aa Ca na ca ma da ra))) (hvb : Hid (Vldo w (VV k7 p7 q7 g7 A7 C7 n7 c7 m7 d7 r7) (VV kb pb qb gb Ab Cb nb cb mb db rb))) (HC : CmpN false true (VV ka pa qa ga Aa Ca na ca ma da ra) (VV kb pb qb gb Ab Cb nb cb mb db rb) l1 l2 w) : Calls Tryz.prog 18 #[.string ⟨#[62, 61]⟩, VV k8 p8 q8 g8 A8 C8 n8 c8 m8 d8 r8, VV k7 p7 q7 g7 A7 C7 n7 c7 m7 d7 r7] w (RetF (FJ (.bool false) 0) w) :=
  bin_ge w hva hvb (FJ.stab _ _) (fun w1 h1 => (order_nan2 w1 (HC.plus h1)).mono (fun _ _ h => retF_bool h))
theorem bk_ge_S {s : Int} (w : World) (hva : Hid (Vldo w (VV k8 p8 q8 g8 A8 C8 n8 c8 m8 d8 r8) (VV ka pa qa ga Aa Ca na ca ma da ra))) (hvb : Hid (Vldo w (VV k7 p7 q7 g7 A7 C7 n7 c7 m7 d7 r7) (VV kb pb qb gb Ab Cb nb cb mb db rb))) (hs : (s != 0) = true) (HC : ∀ w1, Plus w w1 → Calls Tryz.prog 123 #[VV ka pa qa ga Aa Ca na ca ma da ra, VV kb pb qb gb Ab Cb nb cb mb db rb] w1 (fun e w' => e = .returned (.tuple #[Value.agg #[.int .i64 0, .int .i64 0, .int .i64 0, .bool false, .slice none 0 0, .slice none 0 0, .int .i64 0], Value.agg #[.int .i64 0, .int .i64 0, .int .i64 0, .bool false, .slice none 0 0, .slice none 0 0, .int .i64 0], .int .i64 s]) ∧ Plus w1 w')) : Calls Tryz.prog 18 #[.string ⟨#[62, 61]⟩, VV k8 p8 q8 g8 A8 C8 n8 c8 m8 d8 r8, VV k7 p7 q7 g7 A7 C7 n7 c7 m7 d7 r7] w (RetF (FJ .undef s) w) :=
  bin_ge w hva hvb (FJ.stab _ _) (fun w1 h1 => (order_S w1 hs (fun w2 h2 => HC w2 (h1.trans h2))).mono (fun _ _ h => retF_nil h))
end Go.Proofs.YtgljfgkkolfnbaaGreatDoor

namespace Go.Proofs.YtgljfgkkolfnbaaGreatDoor
open Go.RowKit

theorem isV_inf (b : Bool) : IsV (infK b) 0 := by cases b; exact .inr (.inr (.inr (.inl ⟨rfl, rfl⟩))); exact .inr (.inr (.inr (.inr ⟨rfl, rfl⟩)))
theorem isV_zero (b : Bool) : IsV (zeroK b) 0 := by cases b; exact .inl ⟨rfl, by decide, by decide⟩; exact .inr (.inl ⟨rfl, rfl⟩)
theorem mul_V (a b c d : Int) : IsV (mulR a b c d).k (mulR a b c d).n := by
  have h1 := isV_v a b
  have h2 := isV_v c d
  unfold mulR
  generalize vk a b = p at h1 ⊢
  generalize vn a b = q at h1 ⊢
  generalize vk c d = r at h2 ⊢
  generalize vn c d = s at h2 ⊢
  unfold mulS
  repeat' split
  all_goals first
    | exact ofS_V _
    | exact .inl ⟨rfl, by decide, by decide⟩
    | exact .inr (.inl ⟨rfl, rfl⟩)
    | exact .inr (.inr (.inl ⟨rfl, rfl⟩))
    | exact isV_inf _
    | exact isV_zero _
    | exact h1
    | exact h2
    | skip
theorem div_V (a b c d : Int) : IsV (divR a b c d).k (divR a b c d).n := by
  have h1 := isV_v a b
  have h2 := isV_v c d
  unfold divR
  generalize vk a b = p at h1 ⊢
  generalize vn a b = q at h1 ⊢
  generalize vk c d = r at h2 ⊢
  generalize vn c d = s at h2 ⊢
  unfold divS
  repeat' split
  all_goals first
    | exact ofS_V _
    | exact .inl ⟨rfl, by decide, by decide⟩
    | exact .inr (.inl ⟨rfl, rfl⟩)
    | exact .inr (.inr (.inl ⟨rfl, rfl⟩))
    | exact isV_inf _
    | exact isV_zero _
    | exact h1
    | exact h2
    | skip
theorem isV_b {p q : Int} (h : IsV p q) : -9007199254740991 ≤ q ∧ q ≤ 9007199254740991 := by
  rcases h with ⟨_, h1, h2⟩ | ⟨_, rfl⟩ | ⟨_, rfl⟩ | ⟨_, rfl⟩ | ⟨_, rfl⟩ <;> omega
theorem rem_V (a b c d : Int) : IsV (remR a b c d).k (remR a b c d).n := by
  have h1 := isV_v a b
  have h2 := isV_v c d
  unfold remR
  generalize vk a b = p at h1 ⊢
  generalize vn a b = q at h1 ⊢
  generalize vk c d = r at h2 ⊢
  generalize vn c d = s at h2 ⊢
  unfold remS
  repeat' split
  all_goals first
    | exact ofS_V _
    | exact .inl ⟨rfl, by decide, by decide⟩
    | exact .inr (.inl ⟨rfl, rfl⟩)
    | exact .inr (.inr (.inl ⟨rfl, rfl⟩))
    | exact isV_inf _
    | exact isV_zero _
    | exact h1
    | exact h2
    | (have hb := isV_b h1; exact .inl ⟨rfl, by have := Int.natAbs_tmod q s; have h3 := Nat.mod_le q.natAbs s.natAbs; show -9007199254740991 ≤ q.tmod s; omega, by have := Int.natAbs_tmod q s; have h3 := Nat.mod_le q.natAbs s.natAbs; show q.tmod s ≤ 9007199254740991; omega⟩)
theorem neg_V (a b : Int) : IsV (negR a b).k (negR a b).n := by
  have h1 := isV_v a b
  unfold negR
  generalize vk a b = p at h1 ⊢
  generalize vn a b = q at h1 ⊢
  have hb := isV_b h1
  unfold negS
  repeat' split
  all_goals first
    | exact .inl ⟨rfl, by decide, by decide⟩
    | exact .inr (.inl ⟨rfl, rfl⟩)
    | exact .inr (.inr (.inl ⟨rfl, rfl⟩))
    | exact .inr (.inr (.inr (.inl ⟨rfl, rfl⟩)))
    | exact .inr (.inr (.inr (.inr ⟨rfl, rfl⟩)))
    | exact .inl ⟨rfl, by show -9007199254740991 ≤ -q; omega, by show -q ≤ 9007199254740991; omega⟩
theorem sg_bd' {z : Int} (h0 : 0 ≤ z) (h1 : z < 4294967296) : -2147483648 ≤ sg z ∧ sg z < 2147483648 := by
  unfold sg
  split <;> omega
theorem div_bd {x y : Int} {k : Nat} (h0 : -y ≤ x) (h1 : x ≤ y) (hy : 0 ≤ y) : -y ≤ x / 2 ^ k ∧ x / 2 ^ k ≤ y := by
  have hp : (0 : Int) < 2 ^ k := Int.pow_pos (by decide)
  have hp1 : (1 : Int) ≤ 2 ^ k := hp
  constructor
  · apply (Int.le_ediv_iff_mul_le hp).2
    have : y * 1 ≤ y * 2 ^ k := Int.mul_le_mul_of_nonneg_left hp1 hy
    have e : -y * 2 ^ k = -(y * 2 ^ k) := Int.neg_mul _ _
    omega
  · apply Int.ediv_le_of_le_mul hp
    have : y * 1 ≤ y * 2 ^ k := Int.mul_le_mul_of_nonneg_left hp1 hy
    omega
theorem bit_V (op a b c d : Int) : IsV (bitR op a b c d).k (bitR op a b c d).n := by
  obtain ⟨x0, x1⟩ := word_bd a b
  obtain ⟨y0, y1⟩ := word_bd c d
  unfold bitR
  split
  · generalize wordR a b = x at x0 x1 ⊢
    generalize wordR c d = y at y0 y1 ⊢
    have key : -9007199254740991 ≤ bitN op x y ∧ bitN op x y ≤ 9007199254740991 := by
      unfold bitN
      split
      · have h := @and_lt x.toNat y.toNat (by omega)
        have := sg_bd' (z := ((x.toNat &&& y.toNat : Nat) : Int)) (by omega) (by omega)
        omega
      split
      · have h := @or_lt x.toNat y.toNat (by omega) (by omega)
        have := sg_bd' (z := ((x.toNat ||| y.toNat : Nat) : Int)) (by omega) (by omega)
        omega
      split
      · have h := @xor_lt x.toNat y.toNat (by omega) (by omega)
        have := sg_bd' (z := ((x.toNat ^^^ y.toNat : Nat) : Int)) (by omega) (by omega)
        omega
      split
      · have := sg_bd' (z := x * 2 ^ (y % 32).toNat % 4294967296) (by omega) (by omega)
        omega
      split
      · have h := sg_bd' x0 x1
        have := div_bd (x := sg x) (y := 2147483648) (k := (y % 32).toNat) (by omega) (by omega) (by omega)
        omega
      · have := div_bd (x := x) (y := 4294967296) (k := (y % 32).toNat) (by omega) (by omega) (by omega)
        omega
    exact .inl ⟨rfl, key.1, key.2⟩
  · exact .inr (.inr (.inl ⟨rfl, rfl⟩))
theorem nums_mul_J (a b a2 b2 : Int) (hv : IsV (mulR a b a2 b2).k (mulR a b a2 b2).n) (w : World) : Calls Tryz.prog 49 #[.string ⟨#[42]⟩, .agg #[.int .i64 a, .int .i64 b], .agg #[.int .i64 a2, .int .i64 b2]] w (RetF (FJ (jA (mulR a b a2 b2)) (tA (mulR a b a2 b2))) w) := by
  obtain ⟨x, y, o, h⟩ : ∃ x y o, mulR a b a2 b2 = ⟨x, y, o⟩ := ⟨_, _, _, rfl⟩
  rw [h] at hv ⊢
  cases o
  · exact (nums_mul_n w (Lib.hid h)).mono fun _ _ h => retF_nil h
  · exact (nums_mul_y w (Lib.hid h)).mono fun _ _ h => retF_num hv h
theorem nums_div_J (a b a2 b2 : Int) (hv : IsV (divR a b a2 b2).k (divR a b a2 b2).n) (w : World) : Calls Tryz.prog 49 #[.string ⟨#[47]⟩, .agg #[.int .i64 a, .int .i64 b], .agg #[.int .i64 a2, .int .i64 b2]] w (RetF (FJ (jA (divR a b a2 b2)) (tA (divR a b a2 b2))) w) := by
  obtain ⟨x, y, o, h⟩ : ∃ x y o, divR a b a2 b2 = ⟨x, y, o⟩ := ⟨_, _, _, rfl⟩
  rw [h] at hv ⊢
  cases o
  · exact (nums_div_n w (Lib.hid h)).mono fun _ _ h => retF_nil h
  · exact (nums_div_y w (Lib.hid h)).mono fun _ _ h => retF_num hv h
theorem bigs_mul_J {ga gb : Bool} {Aa Ab : Option Addr} {xsa xsb : List Nat} {na ca nb cb : Nat} {za zb : Int} (w : World) (h1 : BgV ga Aa xsa na ca za w) (h2 : BgV gb Ab xsb nb cb zb w) : Calls Tryz.prog 47 #[.string ⟨#[42]⟩, .agg #[.bool ga, .slice Aa na ca], .agg #[.bool gb, .slice Ab nb cb]] w (RetF (FJ (jB (za * zb)) (tB (za * zb))) w) := by
  unfold jB tB
  by_cases h : (za * zb).natAbs < Bg.B ^ 8
  · rw [if_pos h, if_pos h]
    exact (bigs_mul_y w (Lib.hid h1) (Lib.hid h2) (Lib.hid ⟨Bg.Nm.mk' h, by simp [h], by rw [if_pos h]⟩)).mono fun _ _ h => h.f
  · rw [if_neg h, if_neg h]
    exact (bigs_mul_n w (Lib.hid h1) (Lib.hid h2) (Lib.hid ⟨nm0, by simp [h], by rw [if_neg h]⟩)).mono fun _ _ h => retF_nil h
theorem bigs_div_J {ga gb : Bool} {Aa Ab : Option Addr} {xsa xsb : List Nat} {na ca nb cb : Nat} {za zb : Int} (hz : za.natAbs < Bg.B ^ 8) (w : World) (h1 : BgV ga Aa xsa na ca za w) (h2 : BgV gb Ab xsb nb cb zb w) : Calls Tryz.prog 47 #[.string ⟨#[47]⟩, .agg #[.bool ga, .slice Aa na ca], .agg #[.bool gb, .slice Ab nb cb]] w (RetF (FJ (if zb.natAbs = 0 then .undef else .big (za.tdiv zb)) (if zb.natAbs = 0 then 2 else 0)) w) := by
  by_cases h : zb.natAbs = 0
  · rw [if_pos h, if_pos h]
    exact (bigs_div_n w (Lib.hid h1) (Lib.hid h2) (Lib.hid ⟨nm0, by rw [if_pos h], by rw [if_pos h]⟩)).mono fun _ _ h => retF_nil h
  · rw [if_neg h, if_neg h]
    have hq : (za.tdiv zb).natAbs < Bg.B ^ 8 := by
      rw [Int.natAbs_tdiv]
      exact Nat.lt_of_le_of_lt (Nat.div_le_self _ _) hz
    exact (bigs_div_y w (Lib.hid h1) (Lib.hid h2) (Lib.hid ⟨Bg.Nm.mk' hq, by rw [if_neg h], by rw [if_neg h]⟩)).mono fun _ _ h => h.f
theorem bigs_rem_J {ga gb : Bool} {Aa Ab : Option Addr} {xsa xsb : List Nat} {na ca nb cb : Nat} {za zb : Int} (hz : za.natAbs < Bg.B ^ 8) (w : World) (h1 : BgV ga Aa xsa na ca za w) (h2 : BgV gb Ab xsb nb cb zb w) : Calls Tryz.prog 47 #[.string ⟨#[37]⟩, .agg #[.bool ga, .slice Aa na ca], .agg #[.bool gb, .slice Ab nb cb]] w (RetF (FJ (if zb.natAbs = 0 then .undef else .big (za.tmod zb)) (if zb.natAbs = 0 then 2 else 0)) w) := by
  by_cases h : zb.natAbs = 0
  · rw [if_pos h, if_pos h]
    exact (bigs_rem_n w (Lib.hid h1) (Lib.hid h2) (Lib.hid ⟨nm0, by rw [if_pos h], by rw [if_pos h]⟩)).mono fun _ _ h => retF_nil h
  · rw [if_neg h, if_neg h]
    have hq : (za.tmod zb).natAbs < Bg.B ^ 8 := by
      rw [Int.natAbs_tmod]
      exact Nat.lt_of_le_of_lt (Nat.mod_le _ _) hz
    exact (bigs_rem_y w (Lib.hid h1) (Lib.hid h2) (Lib.hid ⟨Bg.Nm.mk' hq, by rw [if_neg h], by rw [if_neg h]⟩)).mono fun _ _ h => h.f
/-- What may be told. -/
def Good (z : JV) (t : Int) : Prop := (t = 0 ∨ z = .undef) ∧ 0 ≤ t ∧ t ≤ 3
theorem good_0 (z : JV) : Good z 0 := ⟨.inl rfl, by omega, by omega⟩
theorem good_s {t : Int} (h0 : 0 ≤ t) (h3 : t ≤ 3) : Good .undef t := ⟨.inr rfl, h0, h3⟩
theorem good_A (r : Ans) : Good (jA r) (tA r) := by
  unfold jA tA
  by_cases h : r.ok = true
  · rw [if_pos h, if_pos h]; exact good_0 _
  · rw [if_neg h, if_neg h]; exact good_s (by omega) (by omega)
theorem good_B (z : Int) : Good (jB z) (tB z) := by
  unfold jB tB
  by_cases h : z.natAbs < Bg.B ^ 8
  · rw [if_pos h, if_pos h]; exact good_0 _
  · rw [if_neg h, if_neg h]; exact good_s (by omega) (by omega)
theorem good_D (c : Prop) [Decidable c] (z : JV) : Good (if c then .undef else z) (if c then 2 else 0) := by
  by_cases h : c
  · rw [if_pos h, if_pos h]; exact good_s (by omega) (by omega)
  · rw [if_neg h, if_neg h]; exact good_0 _
/-- A value as a number or a BigInt, or with a signal. -/
theorem cls {x : JV} (h : okJ x) : (∃ z, x = .big z ∧ z.natAbs < Bg.B ^ 8) ∨ (∃ a b, numJ x = ⟨a, b, 0⟩ ∧ (∀ z, x ≠ .big z) ∧ IsV a b) ∨ (∃ a b s, numJ x = ⟨a, b, s⟩ ∧ (∀ z, x ≠ .big z) ∧ s ≠ 0 ∧ 0 ≤ s ∧ s ≤ 3) := by
  have hV := numJ_V h
  cases x with
  | big z => exact .inl ⟨z, rfl, h⟩
  | undef => exact .inr (.inl ⟨_, _, rfl, fun _ e => (by cases e), hV⟩)
  | null => exact .inr (.inl ⟨_, _, rfl, fun _ e => (by cases e), hV⟩)
  | bool b => exact .inr (.inl ⟨_, _, rfl, fun _ e => (by cases e), hV⟩)
  | num p q => exact .inr (.inl ⟨_, _, rfl, fun _ e => (by cases e), hV⟩)
  | obj r => exact .inr (.inr ⟨_, _, _, rfl, fun _ e => (by cases e), by decide, by decide, by decide⟩)
  | text us =>
    by_cases ho : (numU us).ok = true
    · have e : numJ (.text us) = ⟨(numU us).k, (numU us).n, 0⟩ := by show nofU us = _; unfold nofU; rw [if_pos ho]
      rw [e] at hV
      exact .inr (.inl ⟨_, _, e, fun _ e => (by cases e), hV⟩)
    · have e : numJ (.text us) = ⟨0, 0, 3⟩ := by show nofU us = _; unfold nofU; rw [if_neg ho]
      exact .inr (.inr ⟨_, _, _, e, fun _ e => (by cases e), by decide, by decide, by decide⟩)
end Go.Proofs.YtgljfgkkolfnbaaGreatDoor

namespace Go.Proofs.YtgljfgkkolfnbaaGreatDoor
open Go.RowKit
variable {k8 p8 q8 : Int} {g8 : Bool} {A8 C8 : Option Addr} {n8 c8 m8 d8 : Nat} {r8 : Int}
variable {k7 p7 q7 : Int} {g7 : Bool} {A7 C7 : Option Addr} {n7 c7 m7 d7 : Nat} {r7 : Int}
variable {ka pa qa : Int} {ga : Bool} {Aa Ca : Option Addr} {na ca ma da : Nat} {ra : Int}
variable {kb pb qb : Int} {gb : Bool} {Ab Cb : Option Addr} {nb cb mb db : Nat} {rb : Int}

/-- Whatever the values are, what is told may be. -/
def BinG (op : ByteArray) (U V : Value) (w : World) : Prop := ∃ z t, Good z t ∧ ∀ w1, Plus w w1 → Calls Tryz.prog 18 #[.string op, U, V] w1 (RetF (FJ z t) w1)
theorem NV.k4 {k p q : Int} {g : Bool} {A C : Option Addr} {n c m d : Nat} {r : Int} {w : World} {x : JV} (h : NV w (Value.agg #[.int .i64 k, .int .i64 p, .int .i64 q, .bool g, .slice A n c, .slice C m d, .int .i64 r]) x) : (k == 4) = true ↔ ∃ z, x = .big z := by
  cases x with
  | big z => obtain ⟨g', A', C', xs', n', c', d', e, _⟩ := h; simp at e; obtain ⟨rfl, _⟩ := e; simp
  | undef => obtain ⟨A', C', c', d', e, _⟩ := h; simp at e; obtain ⟨rfl, _⟩ := e; simp
  | null => obtain ⟨A', C', c', d', e, _⟩ := h; simp at e; obtain ⟨rfl, _⟩ := e; simp
  | bool b => obtain ⟨A', C', c', d', e, _⟩ := h; simp at e; obtain ⟨rfl, _⟩ := e; simp
  | num p q => obtain ⟨A', C', c', d', e, _⟩ := h; simp at e; obtain ⟨rfl, _⟩ := e; simp
  | text us => obtain ⟨A', C', c', m', d', e, _⟩ := h; simp at e; obtain ⟨rfl, _⟩ := e; simp
  | obj r => obtain ⟨A', C', c', d', e, _⟩ := h; simp at e; obtain ⟨rfl, _⟩ := e; simp
theorem NV.k5 {k p q : Int} {g : Bool} {A C : Option Addr} {n c m d : Nat} {r : Int} {w : World} {x : JV} (h : NV w (Value.agg #[.int .i64 k, .int .i64 p, .int .i64 q, .bool g, .slice A n c, .slice C m d, .int .i64 r]) x) : (k == 5) = true ↔ ∃ us, x = .text us := by
  cases x with
  | big z => obtain ⟨g', A', C', xs', n', c', d', e, _⟩ := h; simp at e; obtain ⟨rfl, _⟩ := e; simp
  | undef => obtain ⟨A', C', c', d', e, _⟩ := h; simp at e; obtain ⟨rfl, _⟩ := e; simp
  | null => obtain ⟨A', C', c', d', e, _⟩ := h; simp at e; obtain ⟨rfl, _⟩ := e; simp
  | bool b => obtain ⟨A', C', c', d', e, _⟩ := h; simp at e; obtain ⟨rfl, _⟩ := e; simp
  | num p q => obtain ⟨A', C', c', d', e, _⟩ := h; simp at e; obtain ⟨rfl, _⟩ := e; simp
  | text us => obtain ⟨A', C', c', m', d', e, _⟩ := h; simp at e; obtain ⟨rfl, _⟩ := e; simp
  | obj r => obtain ⟨A', C', c', d', e, _⟩ := h; simp at e; obtain ⟨rfl, _⟩ := e; simp
theorem nv_t5 {k p q : Int} {g : Bool} {A C : Option Addr} {n c m d : Nat} {r : Int} {w : World} {us : List Nat} (h : NV w (Value.agg #[.int .i64 k, .int .i64 p, .int .i64 q, .bool g, .slice A n c, .slice C m d, .int .i64 r]) (.text us)) : ∃ (A1 C1 : Option Addr) (c1 m1 d1 : Nat), (Value.agg #[.int .i64 k, .int .i64 p, .int .i64 q, .bool g, .slice A n c, .slice C m d, .int .i64 r]) = (Value.agg #[.int .i64 5, .int .i64 0, .int .i64 0, .bool false, .slice A1 0 c1, .slice C1 m1 d1, .int .i64 0]) ∧ Ar .u16 65536 w C1 us m1 d1 := by
  obtain ⟨A1, C1, c1, m1, d1, e, _, _, h3⟩ := h
  exact ⟨A1, C1, c1, m1, d1, e, h3⟩
theorem nm_eta (r : Nm) : r = ⟨r.k, r.n⟩ := by cases r; rfl
theorem txt_sig (x : JV) : (txtJ x).s = 0 ∨ (txtJ x).s = 3 := by cases x <;> first | exact .inl rfl | exact .inr rfl
theorem txt_lt {x : JV} (h : okJ x) : (txtJ x).t.length ≤ 4096 := by
  cases x with
  | text us => exact h.1
  | num p q => have h1 := txt_size h; have h2 : (txtS p q).length ≤ 1000 := by simpa [ByteArray.size] using h1
               simp only [txtJ, u8n, List.length_map]; omega
  | big z => have := txt_len (z := z) h; simp only [txtJ, u8n, List.length_map]; omega
  | bool b => cases b <;> decide
  | undef => decide
  | null => decide
  | obj r => show ([] : List Nat).length ≤ 4096; decide
theorem bg_sub {xa xb : JV} (w : World) (hL : Lai w) (hxa : NV w (Value.agg #[.int .i64 ka, .int .i64 pa, .int .i64 qa, .bool ga, .slice Aa na ca, .slice Ca ma da, .int .i64 ra]) xa) (hxb : NV w (Value.agg #[.int .i64 kb, .int .i64 pb, .int .i64 qb, .bool gb, .slice Ab nb cb, .slice Cb mb db, .int .i64 rb]) xb) (hva : Vldo w (Value.agg #[.int .i64 k8, .int .i64 p8, .int .i64 q8, .bool g8, .slice A8 n8 c8, .slice C8 m8 d8, .int .i64 r8]) (Value.agg #[.int .i64 ka, .int .i64 pa, .int .i64 qa, .bool ga, .slice Aa na ca, .slice Ca ma da, .int .i64 ra])) (hvb : Vldo w (Value.agg #[.int .i64 k7, .int .i64 p7, .int .i64 q7, .bool g7, .slice A7 n7 c7, .slice C7 m7 d7, .int .i64 r7]) (Value.agg #[.int .i64 kb, .int .i64 pb, .int .i64 qb, .bool gb, .slice Ab nb cb, .slice Cb mb db, .int .i64 rb])) : BinG ⟨#[45]⟩ (Value.agg #[.int .i64 k8, .int .i64 p8, .int .i64 q8, .bool g8, .slice A8 n8 c8, .slice C8 m8 d8, .int .i64 r8]) (Value.agg #[.int .i64 k7, .int .i64 p7, .int .i64 q7, .bool g7, .slice A7 n7 c7, .slice C7 m7 d7, .int .i64 r7]) w := by
  rcases cls hxa.ok with ⟨za, rfl, hza⟩ | ⟨aa, ba, hja, nba, va⟩ | ⟨aa, ba, sa, hja, nba, sa0, sa1, sa2⟩
  · rcases cls hxb.ok with ⟨zb, rfl, hzb⟩ | ⟨ab, bb, hjb, nbb, vb⟩ | ⟨ab, bb, sb, hjb, nbb, sb0, sb1, sb2⟩
    · exact ⟨_, _, good_B _, fun w1 hp => bk_sub_BB w1 (Lib.hid (hL.plus hp)) (Lib.hid (hva.plus hp)) (Lib.hid (hvb.plus hp)) (Lib.hid (hxa.plus hp)) (Lib.hid (hxb.plus hp)) (FJ.stab _ _) (fun _ _ _ _ _ _ _ _ _ _ w2 _ h1 h2 => bigs_sub_J w2 h1 h2)⟩
    · exact ⟨.undef, 1, good_s (by decide) (by decide), fun w1 hp => bk_sub_BN w1 (Lib.hid (hL.plus hp)) (Lib.hid (hva.plus hp)) (Lib.hid (hvb.plus hp)) (Lib.hid (hxa.plus hp)) (Lib.hid (hxb.plus hp)) (Lib.hid hjb) nbb⟩
    · exact ⟨.undef, sb, good_s sb1 sb2, fun w1 hp => bk_sub_BS w1 (Lib.hid (hL.plus hp)) (Lib.hid (hva.plus hp)) (Lib.hid (hvb.plus hp)) (Lib.hid (hxa.plus hp)) (Lib.hid (hxb.plus hp)) (Lib.hid hjb) nbb (by simp [sb0])⟩
  · rcases cls hxb.ok with ⟨zb, rfl, hzb⟩ | ⟨ab, bb, hjb, nbb, vb⟩ | ⟨ab, bb, sb, hjb, nbb, sb0, sb1, sb2⟩
    · exact ⟨.undef, 1, good_s (by decide) (by decide), fun w1 hp => bk_sub_NB w1 (Lib.hid (hL.plus hp)) (Lib.hid (hva.plus hp)) (Lib.hid (hvb.plus hp)) (Lib.hid (hxa.plus hp)) (Lib.hid hja) nba (Lib.hid (hxb.plus hp))⟩
    · exact ⟨_, _, good_A _, fun w1 hp => bk_sub_NN w1 (Lib.hid (hL.plus hp)) (Lib.hid (hva.plus hp)) (Lib.hid (hvb.plus hp)) (Lib.hid (hxa.plus hp)) (Lib.hid hja) nba (Lib.hid (hxb.plus hp)) (Lib.hid hjb) nbb (FJ.stab _ _) (fun w2 _ => nums_sub_J _ _ _ _ (add_V _ _ _ _) w2)⟩
    · exact ⟨.undef, sb, good_s sb1 sb2, fun w1 hp => bk_sub_NS w1 (Lib.hid (hL.plus hp)) (Lib.hid (hva.plus hp)) (Lib.hid (hvb.plus hp)) (Lib.hid (hxa.plus hp)) (Lib.hid hja) nba (Lib.hid (hxb.plus hp)) (Lib.hid hjb) nbb (by simp [sb0])⟩
  · exact ⟨.undef, sa, good_s sa1 sa2, fun w1 hp => bk_sub_SX w1 (Lib.hid (hL.plus hp)) (Lib.hid (hva.plus hp)) (Lib.hid (hvb.plus hp)) (Lib.hid (hxa.plus hp)) (Lib.hid hja) nba (by simp [sa0])⟩
theorem bg_mul {xa xb : JV} (w : World) (hL : Lai w) (hxa : NV w (Value.agg #[.int .i64 ka, .int .i64 pa, .int .i64 qa, .bool ga, .slice Aa na ca, .slice Ca ma da, .int .i64 ra]) xa) (hxb : NV w (Value.agg #[.int .i64 kb, .int .i64 pb, .int .i64 qb, .bool gb, .slice Ab nb cb, .slice Cb mb db, .int .i64 rb]) xb) (hva : Vldo w (Value.agg #[.int .i64 k8, .int .i64 p8, .int .i64 q8, .bool g8, .slice A8 n8 c8, .slice C8 m8 d8, .int .i64 r8]) (Value.agg #[.int .i64 ka, .int .i64 pa, .int .i64 qa, .bool ga, .slice Aa na ca, .slice Ca ma da, .int .i64 ra])) (hvb : Vldo w (Value.agg #[.int .i64 k7, .int .i64 p7, .int .i64 q7, .bool g7, .slice A7 n7 c7, .slice C7 m7 d7, .int .i64 r7]) (Value.agg #[.int .i64 kb, .int .i64 pb, .int .i64 qb, .bool gb, .slice Ab nb cb, .slice Cb mb db, .int .i64 rb])) : BinG ⟨#[42]⟩ (Value.agg #[.int .i64 k8, .int .i64 p8, .int .i64 q8, .bool g8, .slice A8 n8 c8, .slice C8 m8 d8, .int .i64 r8]) (Value.agg #[.int .i64 k7, .int .i64 p7, .int .i64 q7, .bool g7, .slice A7 n7 c7, .slice C7 m7 d7, .int .i64 r7]) w := by
  rcases cls hxa.ok with ⟨za, rfl, hza⟩ | ⟨aa, ba, hja, nba, va⟩ | ⟨aa, ba, sa, hja, nba, sa0, sa1, sa2⟩
  · rcases cls hxb.ok with ⟨zb, rfl, hzb⟩ | ⟨ab, bb, hjb, nbb, vb⟩ | ⟨ab, bb, sb, hjb, nbb, sb0, sb1, sb2⟩
    · exact ⟨_, _, good_B _, fun w1 hp => bk_mul_BB w1 (Lib.hid (hL.plus hp)) (Lib.hid (hva.plus hp)) (Lib.hid (hvb.plus hp)) (Lib.hid (hxa.plus hp)) (Lib.hid (hxb.plus hp)) (FJ.stab _ _) (fun _ _ _ _ _ _ _ _ _ _ w2 _ h1 h2 => bigs_mul_J w2 h1 h2)⟩
    · exact ⟨.undef, 1, good_s (by decide) (by decide), fun w1 hp => bk_mul_BN w1 (Lib.hid (hL.plus hp)) (Lib.hid (hva.plus hp)) (Lib.hid (hvb.plus hp)) (Lib.hid (hxa.plus hp)) (Lib.hid (hxb.plus hp)) (Lib.hid hjb) nbb⟩
    · exact ⟨.undef, sb, good_s sb1 sb2, fun w1 hp => bk_mul_BS w1 (Lib.hid (hL.plus hp)) (Lib.hid (hva.plus hp)) (Lib.hid (hvb.plus hp)) (Lib.hid (hxa.plus hp)) (Lib.hid (hxb.plus hp)) (Lib.hid hjb) nbb (by simp [sb0])⟩
  · rcases cls hxb.ok with ⟨zb, rfl, hzb⟩ | ⟨ab, bb, hjb, nbb, vb⟩ | ⟨ab, bb, sb, hjb, nbb, sb0, sb1, sb2⟩
    · exact ⟨.undef, 1, good_s (by decide) (by decide), fun w1 hp => bk_mul_NB w1 (Lib.hid (hL.plus hp)) (Lib.hid (hva.plus hp)) (Lib.hid (hvb.plus hp)) (Lib.hid (hxa.plus hp)) (Lib.hid hja) nba (Lib.hid (hxb.plus hp))⟩
    · exact ⟨_, _, good_A _, fun w1 hp => bk_mul_NN w1 (Lib.hid (hL.plus hp)) (Lib.hid (hva.plus hp)) (Lib.hid (hvb.plus hp)) (Lib.hid (hxa.plus hp)) (Lib.hid hja) nba (Lib.hid (hxb.plus hp)) (Lib.hid hjb) nbb (FJ.stab _ _) (fun w2 _ => nums_mul_J _ _ _ _ (mul_V _ _ _ _) w2)⟩
    · exact ⟨.undef, sb, good_s sb1 sb2, fun w1 hp => bk_mul_NS w1 (Lib.hid (hL.plus hp)) (Lib.hid (hva.plus hp)) (Lib.hid (hvb.plus hp)) (Lib.hid (hxa.plus hp)) (Lib.hid hja) nba (Lib.hid (hxb.plus hp)) (Lib.hid hjb) nbb (by simp [sb0])⟩
  · exact ⟨.undef, sa, good_s sa1 sa2, fun w1 hp => bk_mul_SX w1 (Lib.hid (hL.plus hp)) (Lib.hid (hva.plus hp)) (Lib.hid (hvb.plus hp)) (Lib.hid (hxa.plus hp)) (Lib.hid hja) nba (by simp [sa0])⟩
theorem bg_div {xa xb : JV} (w : World) (hL : Lai w) (hxa : NV w (Value.agg #[.int .i64 ka, .int .i64 pa, .int .i64 qa, .bool ga, .slice Aa na ca, .slice Ca ma da, .int .i64 ra]) xa) (hxb : NV w (Value.agg #[.int .i64 kb, .int .i64 pb, .int .i64 qb, .bool gb, .slice Ab nb cb, .slice Cb mb db, .int .i64 rb]) xb) (hva : Vldo w (Value.agg #[.int .i64 k8, .int .i64 p8, .int .i64 q8, .bool g8, .slice A8 n8 c8, .slice C8 m8 d8, .int .i64 r8]) (Value.agg #[.int .i64 ka, .int .i64 pa, .int .i64 qa, .bool ga, .slice Aa na ca, .slice Ca ma da, .int .i64 ra])) (hvb : Vldo w (Value.agg #[.int .i64 k7, .int .i64 p7, .int .i64 q7, .bool g7, .slice A7 n7 c7, .slice C7 m7 d7, .int .i64 r7]) (Value.agg #[.int .i64 kb, .int .i64 pb, .int .i64 qb, .bool gb, .slice Ab nb cb, .slice Cb mb db, .int .i64 rb])) : BinG ⟨#[47]⟩ (Value.agg #[.int .i64 k8, .int .i64 p8, .int .i64 q8, .bool g8, .slice A8 n8 c8, .slice C8 m8 d8, .int .i64 r8]) (Value.agg #[.int .i64 k7, .int .i64 p7, .int .i64 q7, .bool g7, .slice A7 n7 c7, .slice C7 m7 d7, .int .i64 r7]) w := by
  rcases cls hxa.ok with ⟨za, rfl, hza⟩ | ⟨aa, ba, hja, nba, va⟩ | ⟨aa, ba, sa, hja, nba, sa0, sa1, sa2⟩
  · rcases cls hxb.ok with ⟨zb, rfl, hzb⟩ | ⟨ab, bb, hjb, nbb, vb⟩ | ⟨ab, bb, sb, hjb, nbb, sb0, sb1, sb2⟩
    · exact ⟨_, _, good_D _ _, fun w1 hp => bk_div_BB w1 (Lib.hid (hL.plus hp)) (Lib.hid (hva.plus hp)) (Lib.hid (hvb.plus hp)) (Lib.hid (hxa.plus hp)) (Lib.hid (hxb.plus hp)) (FJ.stab _ _) (fun _ _ _ _ _ _ _ _ _ _ w2 _ h1 h2 => bigs_div_J hza w2 h1 h2)⟩
    · exact ⟨.undef, 1, good_s (by decide) (by decide), fun w1 hp => bk_div_BN w1 (Lib.hid (hL.plus hp)) (Lib.hid (hva.plus hp)) (Lib.hid (hvb.plus hp)) (Lib.hid (hxa.plus hp)) (Lib.hid (hxb.plus hp)) (Lib.hid hjb) nbb⟩
    · exact ⟨.undef, sb, good_s sb1 sb2, fun w1 hp => bk_div_BS w1 (Lib.hid (hL.plus hp)) (Lib.hid (hva.plus hp)) (Lib.hid (hvb.plus hp)) (Lib.hid (hxa.plus hp)) (Lib.hid (hxb.plus hp)) (Lib.hid hjb) nbb (by simp [sb0])⟩
  · rcases cls hxb.ok with ⟨zb, rfl, hzb⟩ | ⟨ab, bb, hjb, nbb, vb⟩ | ⟨ab, bb, sb, hjb, nbb, sb0, sb1, sb2⟩
    · exact ⟨.undef, 1, good_s (by decide) (by decide), fun w1 hp => bk_div_NB w1 (Lib.hid (hL.plus hp)) (Lib.hid (hva.plus hp)) (Lib.hid (hvb.plus hp)) (Lib.hid (hxa.plus hp)) (Lib.hid hja) nba (Lib.hid (hxb.plus hp))⟩
    · exact ⟨_, _, good_A _, fun w1 hp => bk_div_NN w1 (Lib.hid (hL.plus hp)) (Lib.hid (hva.plus hp)) (Lib.hid (hvb.plus hp)) (Lib.hid (hxa.plus hp)) (Lib.hid hja) nba (Lib.hid (hxb.plus hp)) (Lib.hid hjb) nbb (FJ.stab _ _) (fun w2 _ => nums_div_J _ _ _ _ (div_V _ _ _ _) w2)⟩
    · exact ⟨.undef, sb, good_s sb1 sb2, fun w1 hp => bk_div_NS w1 (Lib.hid (hL.plus hp)) (Lib.hid (hva.plus hp)) (Lib.hid (hvb.plus hp)) (Lib.hid (hxa.plus hp)) (Lib.hid hja) nba (Lib.hid (hxb.plus hp)) (Lib.hid hjb) nbb (by simp [sb0])⟩
  · exact ⟨.undef, sa, good_s sa1 sa2, fun w1 hp => bk_div_SX w1 (Lib.hid (hL.plus hp)) (Lib.hid (hva.plus hp)) (Lib.hid (hvb.plus hp)) (Lib.hid (hxa.plus hp)) (Lib.hid hja) nba (by simp [sa0])⟩
theorem bg_rem {xa xb : JV} (w : World) (hL : Lai w) (hxa : NV w (Value.agg #[.int .i64 ka, .int .i64 pa, .int .i64 qa, .bool ga, .slice Aa na ca, .slice Ca ma da, .int .i64 ra]) xa) (hxb : NV w (Value.agg #[.int .i64 kb, .int .i64 pb, .int .i64 qb, .bool gb, .slice Ab nb cb, .slice Cb mb db, .int .i64 rb]) xb) (hva : Vldo w (Value.agg #[.int .i64 k8, .int .i64 p8, .int .i64 q8, .bool g8, .slice A8 n8 c8, .slice C8 m8 d8, .int .i64 r8]) (Value.agg #[.int .i64 ka, .int .i64 pa, .int .i64 qa, .bool ga, .slice Aa na ca, .slice Ca ma da, .int .i64 ra])) (hvb : Vldo w (Value.agg #[.int .i64 k7, .int .i64 p7, .int .i64 q7, .bool g7, .slice A7 n7 c7, .slice C7 m7 d7, .int .i64 r7]) (Value.agg #[.int .i64 kb, .int .i64 pb, .int .i64 qb, .bool gb, .slice Ab nb cb, .slice Cb mb db, .int .i64 rb])) : BinG ⟨#[37]⟩ (Value.agg #[.int .i64 k8, .int .i64 p8, .int .i64 q8, .bool g8, .slice A8 n8 c8, .slice C8 m8 d8, .int .i64 r8]) (Value.agg #[.int .i64 k7, .int .i64 p7, .int .i64 q7, .bool g7, .slice A7 n7 c7, .slice C7 m7 d7, .int .i64 r7]) w := by
  rcases cls hxa.ok with ⟨za, rfl, hza⟩ | ⟨aa, ba, hja, nba, va⟩ | ⟨aa, ba, sa, hja, nba, sa0, sa1, sa2⟩
  · rcases cls hxb.ok with ⟨zb, rfl, hzb⟩ | ⟨ab, bb, hjb, nbb, vb⟩ | ⟨ab, bb, sb, hjb, nbb, sb0, sb1, sb2⟩
    · exact ⟨_, _, good_D _ _, fun w1 hp => bk_rem_BB w1 (Lib.hid (hL.plus hp)) (Lib.hid (hva.plus hp)) (Lib.hid (hvb.plus hp)) (Lib.hid (hxa.plus hp)) (Lib.hid (hxb.plus hp)) (FJ.stab _ _) (fun _ _ _ _ _ _ _ _ _ _ w2 _ h1 h2 => bigs_rem_J hza w2 h1 h2)⟩
    · exact ⟨.undef, 1, good_s (by decide) (by decide), fun w1 hp => bk_rem_BN w1 (Lib.hid (hL.plus hp)) (Lib.hid (hva.plus hp)) (Lib.hid (hvb.plus hp)) (Lib.hid (hxa.plus hp)) (Lib.hid (hxb.plus hp)) (Lib.hid hjb) nbb⟩
    · exact ⟨.undef, sb, good_s sb1 sb2, fun w1 hp => bk_rem_BS w1 (Lib.hid (hL.plus hp)) (Lib.hid (hva.plus hp)) (Lib.hid (hvb.plus hp)) (Lib.hid (hxa.plus hp)) (Lib.hid (hxb.plus hp)) (Lib.hid hjb) nbb (by simp [sb0])⟩
  · rcases cls hxb.ok with ⟨zb, rfl, hzb⟩ | ⟨ab, bb, hjb, nbb, vb⟩ | ⟨ab, bb, sb, hjb, nbb, sb0, sb1, sb2⟩
    · exact ⟨.undef, 1, good_s (by decide) (by decide), fun w1 hp => bk_rem_NB w1 (Lib.hid (hL.plus hp)) (Lib.hid (hva.plus hp)) (Lib.hid (hvb.plus hp)) (Lib.hid (hxa.plus hp)) (Lib.hid hja) nba (Lib.hid (hxb.plus hp))⟩
    · exact ⟨.num (remR aa ba ab bb).k (remR aa ba ab bb).n, 0, good_0 _, fun w1 hp => bk_rem_NN w1 (Lib.hid (hL.plus hp)) (Lib.hid (hva.plus hp)) (Lib.hid (hvb.plus hp)) (Lib.hid (hxa.plus hp)) (Lib.hid hja) nba (Lib.hid (hxb.plus hp)) (Lib.hid hjb) nbb (FJ.stab _ _) (fun w2 _ => (nums_rem w2 (Lib.hid (nm_eta _))).mono fun _ _ h => retF_num (rem_V _ _ _ _) h)⟩
    · exact ⟨.undef, sb, good_s sb1 sb2, fun w1 hp => bk_rem_NS w1 (Lib.hid (hL.plus hp)) (Lib.hid (hva.plus hp)) (Lib.hid (hvb.plus hp)) (Lib.hid (hxa.plus hp)) (Lib.hid hja) nba (Lib.hid (hxb.plus hp)) (Lib.hid hjb) nbb (by simp [sb0])⟩
  · exact ⟨.undef, sa, good_s sa1 sa2, fun w1 hp => bk_rem_SX w1 (Lib.hid (hL.plus hp)) (Lib.hid (hva.plus hp)) (Lib.hid (hvb.plus hp)) (Lib.hid (hxa.plus hp)) (Lib.hid hja) nba (by simp [sa0])⟩
theorem bg_and {xa xb : JV} (w : World) (hL : Lai w) (hxa : NV w (Value.agg #[.int .i64 ka, .int .i64 pa, .int .i64 qa, .bool ga, .slice Aa na ca, .slice Ca ma da, .int .i64 ra]) xa) (hxb : NV w (Value.agg #[.int .i64 kb, .int .i64 pb, .int .i64 qb, .bool gb, .slice Ab nb cb, .slice Cb mb db, .int .i64 rb]) xb) (hva : Vldo w (Value.agg #[.int .i64 k8, .int .i64 p8, .int .i64 q8, .bool g8, .slice A8 n8 c8, .slice C8 m8 d8, .int .i64 r8]) (Value.agg #[.int .i64 ka, .int .i64 pa, .int .i64 qa, .bool ga, .slice Aa na ca, .slice Ca ma da, .int .i64 ra])) (hvb : Vldo w (Value.agg #[.int .i64 k7, .int .i64 p7, .int .i64 q7, .bool g7, .slice A7 n7 c7, .slice C7 m7 d7, .int .i64 r7]) (Value.agg #[.int .i64 kb, .int .i64 pb, .int .i64 qb, .bool gb, .slice Ab nb cb, .slice Cb mb db, .int .i64 rb])) : BinG ⟨#[38]⟩ (Value.agg #[.int .i64 k8, .int .i64 p8, .int .i64 q8, .bool g8, .slice A8 n8 c8, .slice C8 m8 d8, .int .i64 r8]) (Value.agg #[.int .i64 k7, .int .i64 p7, .int .i64 q7, .bool g7, .slice A7 n7 c7, .slice C7 m7 d7, .int .i64 r7]) w := by
  rcases cls hxa.ok with ⟨za, rfl, hza⟩ | ⟨aa, ba, hja, nba, va⟩ | ⟨aa, ba, sa, hja, nba, sa0, sa1, sa2⟩
  · rcases cls hxb.ok with ⟨zb, rfl, hzb⟩ | ⟨ab, bb, hjb, nbb, vb⟩ | ⟨ab, bb, sb, hjb, nbb, sb0, sb1, sb2⟩
    · exact ⟨.undef, 3, good_s (by decide) (by decide), fun w1 hp => bk_and_BB w1 (Lib.hid (hL.plus hp)) (Lib.hid (hva.plus hp)) (Lib.hid (hvb.plus hp)) (Lib.hid (hxa.plus hp)) (Lib.hid (hxb.plus hp))⟩
    · exact ⟨.undef, 1, good_s (by decide) (by decide), fun w1 hp => bk_and_BN w1 (Lib.hid (hL.plus hp)) (Lib.hid (hva.plus hp)) (Lib.hid (hvb.plus hp)) (Lib.hid (hxa.plus hp)) (Lib.hid (hxb.plus hp)) (Lib.hid hjb) nbb⟩
    · exact ⟨.undef, sb, good_s sb1 sb2, fun w1 hp => bk_and_BS w1 (Lib.hid (hL.plus hp)) (Lib.hid (hva.plus hp)) (Lib.hid (hvb.plus hp)) (Lib.hid (hxa.plus hp)) (Lib.hid (hxb.plus hp)) (Lib.hid hjb) nbb (by simp [sb0])⟩
  · rcases cls hxb.ok with ⟨zb, rfl, hzb⟩ | ⟨ab, bb, hjb, nbb, vb⟩ | ⟨ab, bb, sb, hjb, nbb, sb0, sb1, sb2⟩
    · exact ⟨.undef, 1, good_s (by decide) (by decide), fun w1 hp => bk_and_NB w1 (Lib.hid (hL.plus hp)) (Lib.hid (hva.plus hp)) (Lib.hid (hvb.plus hp)) (Lib.hid (hxa.plus hp)) (Lib.hid hja) nba (Lib.hid (hxb.plus hp))⟩
    · exact ⟨.num (bitR 1 aa ba ab bb).k (bitR 1 aa ba ab bb).n, 0, good_0 _, fun w1 hp => bk_and_NN w1 (Lib.hid (hL.plus hp)) (Lib.hid (hva.plus hp)) (Lib.hid (hvb.plus hp)) (Lib.hid (hxa.plus hp)) (Lib.hid hja) nba (Lib.hid (hxb.plus hp)) (Lib.hid hjb) nbb (Lib.hid (nm_eta _)) (bit_V _ _ _ _ _)⟩
    · exact ⟨.undef, sb, good_s sb1 sb2, fun w1 hp => bk_and_NS w1 (Lib.hid (hL.plus hp)) (Lib.hid (hva.plus hp)) (Lib.hid (hvb.plus hp)) (Lib.hid (hxa.plus hp)) (Lib.hid hja) nba (Lib.hid (hxb.plus hp)) (Lib.hid hjb) nbb (by simp [sb0])⟩
  · exact ⟨.undef, sa, good_s sa1 sa2, fun w1 hp => bk_and_SX w1 (Lib.hid (hL.plus hp)) (Lib.hid (hva.plus hp)) (Lib.hid (hvb.plus hp)) (Lib.hid (hxa.plus hp)) (Lib.hid hja) nba (by simp [sa0])⟩
theorem bg_or {xa xb : JV} (w : World) (hL : Lai w) (hxa : NV w (Value.agg #[.int .i64 ka, .int .i64 pa, .int .i64 qa, .bool ga, .slice Aa na ca, .slice Ca ma da, .int .i64 ra]) xa) (hxb : NV w (Value.agg #[.int .i64 kb, .int .i64 pb, .int .i64 qb, .bool gb, .slice Ab nb cb, .slice Cb mb db, .int .i64 rb]) xb) (hva : Vldo w (Value.agg #[.int .i64 k8, .int .i64 p8, .int .i64 q8, .bool g8, .slice A8 n8 c8, .slice C8 m8 d8, .int .i64 r8]) (Value.agg #[.int .i64 ka, .int .i64 pa, .int .i64 qa, .bool ga, .slice Aa na ca, .slice Ca ma da, .int .i64 ra])) (hvb : Vldo w (Value.agg #[.int .i64 k7, .int .i64 p7, .int .i64 q7, .bool g7, .slice A7 n7 c7, .slice C7 m7 d7, .int .i64 r7]) (Value.agg #[.int .i64 kb, .int .i64 pb, .int .i64 qb, .bool gb, .slice Ab nb cb, .slice Cb mb db, .int .i64 rb])) : BinG ⟨#[124]⟩ (Value.agg #[.int .i64 k8, .int .i64 p8, .int .i64 q8, .bool g8, .slice A8 n8 c8, .slice C8 m8 d8, .int .i64 r8]) (Value.agg #[.int .i64 k7, .int .i64 p7, .int .i64 q7, .bool g7, .slice A7 n7 c7, .slice C7 m7 d7, .int .i64 r7]) w := by
  rcases cls hxa.ok with ⟨za, rfl, hza⟩ | ⟨aa, ba, hja, nba, va⟩ | ⟨aa, ba, sa, hja, nba, sa0, sa1, sa2⟩
  · rcases cls hxb.ok with ⟨zb, rfl, hzb⟩ | ⟨ab, bb, hjb, nbb, vb⟩ | ⟨ab, bb, sb, hjb, nbb, sb0, sb1, sb2⟩
    · exact ⟨.undef, 3, good_s (by decide) (by decide), fun w1 hp => bk_or_BB w1 (Lib.hid (hL.plus hp)) (Lib.hid (hva.plus hp)) (Lib.hid (hvb.plus hp)) (Lib.hid (hxa.plus hp)) (Lib.hid (hxb.plus hp))⟩
    · exact ⟨.undef, 1, good_s (by decide) (by decide), fun w1 hp => bk_or_BN w1 (Lib.hid (hL.plus hp)) (Lib.hid (hva.plus hp)) (Lib.hid (hvb.plus hp)) (Lib.hid (hxa.plus hp)) (Lib.hid (hxb.plus hp)) (Lib.hid hjb) nbb⟩
    · exact ⟨.undef, sb, good_s sb1 sb2, fun w1 hp => bk_or_BS w1 (Lib.hid (hL.plus hp)) (Lib.hid (hva.plus hp)) (Lib.hid (hvb.plus hp)) (Lib.hid (hxa.plus hp)) (Lib.hid (hxb.plus hp)) (Lib.hid hjb) nbb (by simp [sb0])⟩
  · rcases cls hxb.ok with ⟨zb, rfl, hzb⟩ | ⟨ab, bb, hjb, nbb, vb⟩ | ⟨ab, bb, sb, hjb, nbb, sb0, sb1, sb2⟩
    · exact ⟨.undef, 1, good_s (by decide) (by decide), fun w1 hp => bk_or_NB w1 (Lib.hid (hL.plus hp)) (Lib.hid (hva.plus hp)) (Lib.hid (hvb.plus hp)) (Lib.hid (hxa.plus hp)) (Lib.hid hja) nba (Lib.hid (hxb.plus hp))⟩
    · exact ⟨.num (bitR 2 aa ba ab bb).k (bitR 2 aa ba ab bb).n, 0, good_0 _, fun w1 hp => bk_or_NN w1 (Lib.hid (hL.plus hp)) (Lib.hid (hva.plus hp)) (Lib.hid (hvb.plus hp)) (Lib.hid (hxa.plus hp)) (Lib.hid hja) nba (Lib.hid (hxb.plus hp)) (Lib.hid hjb) nbb (Lib.hid (nm_eta _)) (bit_V _ _ _ _ _)⟩
    · exact ⟨.undef, sb, good_s sb1 sb2, fun w1 hp => bk_or_NS w1 (Lib.hid (hL.plus hp)) (Lib.hid (hva.plus hp)) (Lib.hid (hvb.plus hp)) (Lib.hid (hxa.plus hp)) (Lib.hid hja) nba (Lib.hid (hxb.plus hp)) (Lib.hid hjb) nbb (by simp [sb0])⟩
  · exact ⟨.undef, sa, good_s sa1 sa2, fun w1 hp => bk_or_SX w1 (Lib.hid (hL.plus hp)) (Lib.hid (hva.plus hp)) (Lib.hid (hvb.plus hp)) (Lib.hid (hxa.plus hp)) (Lib.hid hja) nba (by simp [sa0])⟩
theorem bg_xor {xa xb : JV} (w : World) (hL : Lai w) (hxa : NV w (Value.agg #[.int .i64 ka, .int .i64 pa, .int .i64 qa, .bool ga, .slice Aa na ca, .slice Ca ma da, .int .i64 ra]) xa) (hxb : NV w (Value.agg #[.int .i64 kb, .int .i64 pb, .int .i64 qb, .bool gb, .slice Ab nb cb, .slice Cb mb db, .int .i64 rb]) xb) (hva : Vldo w (Value.agg #[.int .i64 k8, .int .i64 p8, .int .i64 q8, .bool g8, .slice A8 n8 c8, .slice C8 m8 d8, .int .i64 r8]) (Value.agg #[.int .i64 ka, .int .i64 pa, .int .i64 qa, .bool ga, .slice Aa na ca, .slice Ca ma da, .int .i64 ra])) (hvb : Vldo w (Value.agg #[.int .i64 k7, .int .i64 p7, .int .i64 q7, .bool g7, .slice A7 n7 c7, .slice C7 m7 d7, .int .i64 r7]) (Value.agg #[.int .i64 kb, .int .i64 pb, .int .i64 qb, .bool gb, .slice Ab nb cb, .slice Cb mb db, .int .i64 rb])) : BinG ⟨#[94]⟩ (Value.agg #[.int .i64 k8, .int .i64 p8, .int .i64 q8, .bool g8, .slice A8 n8 c8, .slice C8 m8 d8, .int .i64 r8]) (Value.agg #[.int .i64 k7, .int .i64 p7, .int .i64 q7, .bool g7, .slice A7 n7 c7, .slice C7 m7 d7, .int .i64 r7]) w := by
  rcases cls hxa.ok with ⟨za, rfl, hza⟩ | ⟨aa, ba, hja, nba, va⟩ | ⟨aa, ba, sa, hja, nba, sa0, sa1, sa2⟩
  · rcases cls hxb.ok with ⟨zb, rfl, hzb⟩ | ⟨ab, bb, hjb, nbb, vb⟩ | ⟨ab, bb, sb, hjb, nbb, sb0, sb1, sb2⟩
    · exact ⟨.undef, 3, good_s (by decide) (by decide), fun w1 hp => bk_xor_BB w1 (Lib.hid (hL.plus hp)) (Lib.hid (hva.plus hp)) (Lib.hid (hvb.plus hp)) (Lib.hid (hxa.plus hp)) (Lib.hid (hxb.plus hp))⟩
    · exact ⟨.undef, 1, good_s (by decide) (by decide), fun w1 hp => bk_xor_BN w1 (Lib.hid (hL.plus hp)) (Lib.hid (hva.plus hp)) (Lib.hid (hvb.plus hp)) (Lib.hid (hxa.plus hp)) (Lib.hid (hxb.plus hp)) (Lib.hid hjb) nbb⟩
    · exact ⟨.undef, sb, good_s sb1 sb2, fun w1 hp => bk_xor_BS w1 (Lib.hid (hL.plus hp)) (Lib.hid (hva.plus hp)) (Lib.hid (hvb.plus hp)) (Lib.hid (hxa.plus hp)) (Lib.hid (hxb.plus hp)) (Lib.hid hjb) nbb (by simp [sb0])⟩
  · rcases cls hxb.ok with ⟨zb, rfl, hzb⟩ | ⟨ab, bb, hjb, nbb, vb⟩ | ⟨ab, bb, sb, hjb, nbb, sb0, sb1, sb2⟩
    · exact ⟨.undef, 1, good_s (by decide) (by decide), fun w1 hp => bk_xor_NB w1 (Lib.hid (hL.plus hp)) (Lib.hid (hva.plus hp)) (Lib.hid (hvb.plus hp)) (Lib.hid (hxa.plus hp)) (Lib.hid hja) nba (Lib.hid (hxb.plus hp))⟩
    · exact ⟨.num (bitR 3 aa ba ab bb).k (bitR 3 aa ba ab bb).n, 0, good_0 _, fun w1 hp => bk_xor_NN w1 (Lib.hid (hL.plus hp)) (Lib.hid (hva.plus hp)) (Lib.hid (hvb.plus hp)) (Lib.hid (hxa.plus hp)) (Lib.hid hja) nba (Lib.hid (hxb.plus hp)) (Lib.hid hjb) nbb (Lib.hid (nm_eta _)) (bit_V _ _ _ _ _)⟩
    · exact ⟨.undef, sb, good_s sb1 sb2, fun w1 hp => bk_xor_NS w1 (Lib.hid (hL.plus hp)) (Lib.hid (hva.plus hp)) (Lib.hid (hvb.plus hp)) (Lib.hid (hxa.plus hp)) (Lib.hid hja) nba (Lib.hid (hxb.plus hp)) (Lib.hid hjb) nbb (by simp [sb0])⟩
  · exact ⟨.undef, sa, good_s sa1 sa2, fun w1 hp => bk_xor_SX w1 (Lib.hid (hL.plus hp)) (Lib.hid (hva.plus hp)) (Lib.hid (hvb.plus hp)) (Lib.hid (hxa.plus hp)) (Lib.hid hja) nba (by simp [sa0])⟩
theorem bg_shl {xa xb : JV} (w : World) (hL : Lai w) (hxa : NV w (Value.agg #[.int .i64 ka, .int .i64 pa, .int .i64 qa, .bool ga, .slice Aa na ca, .slice Ca ma da, .int .i64 ra]) xa) (hxb : NV w (Value.agg #[.int .i64 kb, .int .i64 pb, .int .i64 qb, .bool gb, .slice Ab nb cb, .slice Cb mb db, .int .i64 rb]) xb) (hva : Vldo w (Value.agg #[.int .i64 k8, .int .i64 p8, .int .i64 q8, .bool g8, .slice A8 n8 c8, .slice C8 m8 d8, .int .i64 r8]) (Value.agg #[.int .i64 ka, .int .i64 pa, .int .i64 qa, .bool ga, .slice Aa na ca, .slice Ca ma da, .int .i64 ra])) (hvb : Vldo w (Value.agg #[.int .i64 k7, .int .i64 p7, .int .i64 q7, .bool g7, .slice A7 n7 c7, .slice C7 m7 d7, .int .i64 r7]) (Value.agg #[.int .i64 kb, .int .i64 pb, .int .i64 qb, .bool gb, .slice Ab nb cb, .slice Cb mb db, .int .i64 rb])) : BinG ⟨#[60, 60]⟩ (Value.agg #[.int .i64 k8, .int .i64 p8, .int .i64 q8, .bool g8, .slice A8 n8 c8, .slice C8 m8 d8, .int .i64 r8]) (Value.agg #[.int .i64 k7, .int .i64 p7, .int .i64 q7, .bool g7, .slice A7 n7 c7, .slice C7 m7 d7, .int .i64 r7]) w := by
  rcases cls hxa.ok with ⟨za, rfl, hza⟩ | ⟨aa, ba, hja, nba, va⟩ | ⟨aa, ba, sa, hja, nba, sa0, sa1, sa2⟩
  · rcases cls hxb.ok with ⟨zb, rfl, hzb⟩ | ⟨ab, bb, hjb, nbb, vb⟩ | ⟨ab, bb, sb, hjb, nbb, sb0, sb1, sb2⟩
    · exact ⟨.undef, 3, good_s (by decide) (by decide), fun w1 hp => bk_shl_BB w1 (Lib.hid (hL.plus hp)) (Lib.hid (hva.plus hp)) (Lib.hid (hvb.plus hp)) (Lib.hid (hxa.plus hp)) (Lib.hid (hxb.plus hp))⟩
    · exact ⟨.undef, 1, good_s (by decide) (by decide), fun w1 hp => bk_shl_BN w1 (Lib.hid (hL.plus hp)) (Lib.hid (hva.plus hp)) (Lib.hid (hvb.plus hp)) (Lib.hid (hxa.plus hp)) (Lib.hid (hxb.plus hp)) (Lib.hid hjb) nbb⟩
    · exact ⟨.undef, sb, good_s sb1 sb2, fun w1 hp => bk_shl_BS w1 (Lib.hid (hL.plus hp)) (Lib.hid (hva.plus hp)) (Lib.hid (hvb.plus hp)) (Lib.hid (hxa.plus hp)) (Lib.hid (hxb.plus hp)) (Lib.hid hjb) nbb (by simp [sb0])⟩
  · rcases cls hxb.ok with ⟨zb, rfl, hzb⟩ | ⟨ab, bb, hjb, nbb, vb⟩ | ⟨ab, bb, sb, hjb, nbb, sb0, sb1, sb2⟩
    · exact ⟨.undef, 1, good_s (by decide) (by decide), fun w1 hp => bk_shl_NB w1 (Lib.hid (hL.plus hp)) (Lib.hid (hva.plus hp)) (Lib.hid (hvb.plus hp)) (Lib.hid (hxa.plus hp)) (Lib.hid hja) nba (Lib.hid (hxb.plus hp))⟩
    · exact ⟨.num (bitR 4 aa ba ab bb).k (bitR 4 aa ba ab bb).n, 0, good_0 _, fun w1 hp => bk_shl_NN w1 (Lib.hid (hL.plus hp)) (Lib.hid (hva.plus hp)) (Lib.hid (hvb.plus hp)) (Lib.hid (hxa.plus hp)) (Lib.hid hja) nba (Lib.hid (hxb.plus hp)) (Lib.hid hjb) nbb (Lib.hid (nm_eta _)) (bit_V _ _ _ _ _)⟩
    · exact ⟨.undef, sb, good_s sb1 sb2, fun w1 hp => bk_shl_NS w1 (Lib.hid (hL.plus hp)) (Lib.hid (hva.plus hp)) (Lib.hid (hvb.plus hp)) (Lib.hid (hxa.plus hp)) (Lib.hid hja) nba (Lib.hid (hxb.plus hp)) (Lib.hid hjb) nbb (by simp [sb0])⟩
  · exact ⟨.undef, sa, good_s sa1 sa2, fun w1 hp => bk_shl_SX w1 (Lib.hid (hL.plus hp)) (Lib.hid (hva.plus hp)) (Lib.hid (hvb.plus hp)) (Lib.hid (hxa.plus hp)) (Lib.hid hja) nba (by simp [sa0])⟩
theorem bg_shr {xa xb : JV} (w : World) (hL : Lai w) (hxa : NV w (Value.agg #[.int .i64 ka, .int .i64 pa, .int .i64 qa, .bool ga, .slice Aa na ca, .slice Ca ma da, .int .i64 ra]) xa) (hxb : NV w (Value.agg #[.int .i64 kb, .int .i64 pb, .int .i64 qb, .bool gb, .slice Ab nb cb, .slice Cb mb db, .int .i64 rb]) xb) (hva : Vldo w (Value.agg #[.int .i64 k8, .int .i64 p8, .int .i64 q8, .bool g8, .slice A8 n8 c8, .slice C8 m8 d8, .int .i64 r8]) (Value.agg #[.int .i64 ka, .int .i64 pa, .int .i64 qa, .bool ga, .slice Aa na ca, .slice Ca ma da, .int .i64 ra])) (hvb : Vldo w (Value.agg #[.int .i64 k7, .int .i64 p7, .int .i64 q7, .bool g7, .slice A7 n7 c7, .slice C7 m7 d7, .int .i64 r7]) (Value.agg #[.int .i64 kb, .int .i64 pb, .int .i64 qb, .bool gb, .slice Ab nb cb, .slice Cb mb db, .int .i64 rb])) : BinG ⟨#[62, 62]⟩ (Value.agg #[.int .i64 k8, .int .i64 p8, .int .i64 q8, .bool g8, .slice A8 n8 c8, .slice C8 m8 d8, .int .i64 r8]) (Value.agg #[.int .i64 k7, .int .i64 p7, .int .i64 q7, .bool g7, .slice A7 n7 c7, .slice C7 m7 d7, .int .i64 r7]) w := by
  rcases cls hxa.ok with ⟨za, rfl, hza⟩ | ⟨aa, ba, hja, nba, va⟩ | ⟨aa, ba, sa, hja, nba, sa0, sa1, sa2⟩
  · rcases cls hxb.ok with ⟨zb, rfl, hzb⟩ | ⟨ab, bb, hjb, nbb, vb⟩ | ⟨ab, bb, sb, hjb, nbb, sb0, sb1, sb2⟩
    · exact ⟨.undef, 3, good_s (by decide) (by decide), fun w1 hp => bk_shr_BB w1 (Lib.hid (hL.plus hp)) (Lib.hid (hva.plus hp)) (Lib.hid (hvb.plus hp)) (Lib.hid (hxa.plus hp)) (Lib.hid (hxb.plus hp))⟩
    · exact ⟨.undef, 1, good_s (by decide) (by decide), fun w1 hp => bk_shr_BN w1 (Lib.hid (hL.plus hp)) (Lib.hid (hva.plus hp)) (Lib.hid (hvb.plus hp)) (Lib.hid (hxa.plus hp)) (Lib.hid (hxb.plus hp)) (Lib.hid hjb) nbb⟩
    · exact ⟨.undef, sb, good_s sb1 sb2, fun w1 hp => bk_shr_BS w1 (Lib.hid (hL.plus hp)) (Lib.hid (hva.plus hp)) (Lib.hid (hvb.plus hp)) (Lib.hid (hxa.plus hp)) (Lib.hid (hxb.plus hp)) (Lib.hid hjb) nbb (by simp [sb0])⟩
  · rcases cls hxb.ok with ⟨zb, rfl, hzb⟩ | ⟨ab, bb, hjb, nbb, vb⟩ | ⟨ab, bb, sb, hjb, nbb, sb0, sb1, sb2⟩
    · exact ⟨.undef, 1, good_s (by decide) (by decide), fun w1 hp => bk_shr_NB w1 (Lib.hid (hL.plus hp)) (Lib.hid (hva.plus hp)) (Lib.hid (hvb.plus hp)) (Lib.hid (hxa.plus hp)) (Lib.hid hja) nba (Lib.hid (hxb.plus hp))⟩
    · exact ⟨.num (bitR 5 aa ba ab bb).k (bitR 5 aa ba ab bb).n, 0, good_0 _, fun w1 hp => bk_shr_NN w1 (Lib.hid (hL.plus hp)) (Lib.hid (hva.plus hp)) (Lib.hid (hvb.plus hp)) (Lib.hid (hxa.plus hp)) (Lib.hid hja) nba (Lib.hid (hxb.plus hp)) (Lib.hid hjb) nbb (Lib.hid (nm_eta _)) (bit_V _ _ _ _ _)⟩
    · exact ⟨.undef, sb, good_s sb1 sb2, fun w1 hp => bk_shr_NS w1 (Lib.hid (hL.plus hp)) (Lib.hid (hva.plus hp)) (Lib.hid (hvb.plus hp)) (Lib.hid (hxa.plus hp)) (Lib.hid hja) nba (Lib.hid (hxb.plus hp)) (Lib.hid hjb) nbb (by simp [sb0])⟩
  · exact ⟨.undef, sa, good_s sa1 sa2, fun w1 hp => bk_shr_SX w1 (Lib.hid (hL.plus hp)) (Lib.hid (hva.plus hp)) (Lib.hid (hvb.plus hp)) (Lib.hid (hxa.plus hp)) (Lib.hid hja) nba (by simp [sa0])⟩
theorem bg_ushr {xa xb : JV} (w : World) (hL : Lai w) (hxa : NV w (Value.agg #[.int .i64 ka, .int .i64 pa, .int .i64 qa, .bool ga, .slice Aa na ca, .slice Ca ma da, .int .i64 ra]) xa) (hxb : NV w (Value.agg #[.int .i64 kb, .int .i64 pb, .int .i64 qb, .bool gb, .slice Ab nb cb, .slice Cb mb db, .int .i64 rb]) xb) (hva : Vldo w (Value.agg #[.int .i64 k8, .int .i64 p8, .int .i64 q8, .bool g8, .slice A8 n8 c8, .slice C8 m8 d8, .int .i64 r8]) (Value.agg #[.int .i64 ka, .int .i64 pa, .int .i64 qa, .bool ga, .slice Aa na ca, .slice Ca ma da, .int .i64 ra])) (hvb : Vldo w (Value.agg #[.int .i64 k7, .int .i64 p7, .int .i64 q7, .bool g7, .slice A7 n7 c7, .slice C7 m7 d7, .int .i64 r7]) (Value.agg #[.int .i64 kb, .int .i64 pb, .int .i64 qb, .bool gb, .slice Ab nb cb, .slice Cb mb db, .int .i64 rb])) : BinG ⟨#[62, 62, 62]⟩ (Value.agg #[.int .i64 k8, .int .i64 p8, .int .i64 q8, .bool g8, .slice A8 n8 c8, .slice C8 m8 d8, .int .i64 r8]) (Value.agg #[.int .i64 k7, .int .i64 p7, .int .i64 q7, .bool g7, .slice A7 n7 c7, .slice C7 m7 d7, .int .i64 r7]) w := by
  rcases cls hxa.ok with ⟨za, rfl, hza⟩ | ⟨aa, ba, hja, nba, va⟩ | ⟨aa, ba, sa, hja, nba, sa0, sa1, sa2⟩
  · rcases cls hxb.ok with ⟨zb, rfl, hzb⟩ | ⟨ab, bb, hjb, nbb, vb⟩ | ⟨ab, bb, sb, hjb, nbb, sb0, sb1, sb2⟩
    · exact ⟨.undef, 1, good_s (by decide) (by decide), fun w1 hp => bk_ushr_BB w1 (Lib.hid (hL.plus hp)) (Lib.hid (hva.plus hp)) (Lib.hid (hvb.plus hp)) (Lib.hid (hxa.plus hp)) (Lib.hid (hxb.plus hp))⟩
    · exact ⟨.undef, 1, good_s (by decide) (by decide), fun w1 hp => bk_ushr_BN w1 (Lib.hid (hL.plus hp)) (Lib.hid (hva.plus hp)) (Lib.hid (hvb.plus hp)) (Lib.hid (hxa.plus hp)) (Lib.hid (hxb.plus hp)) (Lib.hid hjb) nbb⟩
    · exact ⟨.undef, sb, good_s sb1 sb2, fun w1 hp => bk_ushr_BS w1 (Lib.hid (hL.plus hp)) (Lib.hid (hva.plus hp)) (Lib.hid (hvb.plus hp)) (Lib.hid (hxa.plus hp)) (Lib.hid (hxb.plus hp)) (Lib.hid hjb) nbb (by simp [sb0])⟩
  · rcases cls hxb.ok with ⟨zb, rfl, hzb⟩ | ⟨ab, bb, hjb, nbb, vb⟩ | ⟨ab, bb, sb, hjb, nbb, sb0, sb1, sb2⟩
    · exact ⟨.undef, 1, good_s (by decide) (by decide), fun w1 hp => bk_ushr_NB w1 (Lib.hid (hL.plus hp)) (Lib.hid (hva.plus hp)) (Lib.hid (hvb.plus hp)) (Lib.hid (hxa.plus hp)) (Lib.hid hja) nba (Lib.hid (hxb.plus hp))⟩
    · exact ⟨.num (bitR 6 aa ba ab bb).k (bitR 6 aa ba ab bb).n, 0, good_0 _, fun w1 hp => bk_ushr_NN w1 (Lib.hid (hL.plus hp)) (Lib.hid (hva.plus hp)) (Lib.hid (hvb.plus hp)) (Lib.hid (hxa.plus hp)) (Lib.hid hja) nba (Lib.hid (hxb.plus hp)) (Lib.hid hjb) nbb (Lib.hid (nm_eta _)) (bit_V _ _ _ _ _)⟩
    · exact ⟨.undef, sb, good_s sb1 sb2, fun w1 hp => bk_ushr_NS w1 (Lib.hid (hL.plus hp)) (Lib.hid (hva.plus hp)) (Lib.hid (hvb.plus hp)) (Lib.hid (hxa.plus hp)) (Lib.hid hja) nba (Lib.hid (hxb.plus hp)) (Lib.hid hjb) nbb (by simp [sb0])⟩
  · exact ⟨.undef, sa, good_s sa1 sa2, fun w1 hp => bk_ushr_SX w1 (Lib.hid (hL.plus hp)) (Lib.hid (hva.plus hp)) (Lib.hid (hvb.plus hp)) (Lib.hid (hxa.plus hp)) (Lib.hid hja) nba (by simp [sa0])⟩
theorem bg_adda {xa xb : JV} (w : World) (hL : Lai w) (hxa : NV w (Value.agg #[.int .i64 ka, .int .i64 pa, .int .i64 qa, .bool ga, .slice Aa na ca, .slice Ca ma da, .int .i64 ra]) xa) (hxb : NV w (Value.agg #[.int .i64 kb, .int .i64 pb, .int .i64 qb, .bool gb, .slice Ab nb cb, .slice Cb mb db, .int .i64 rb]) xb) (hva : Vldo w (Value.agg #[.int .i64 k8, .int .i64 p8, .int .i64 q8, .bool g8, .slice A8 n8 c8, .slice C8 m8 d8, .int .i64 r8]) (Value.agg #[.int .i64 ka, .int .i64 pa, .int .i64 qa, .bool ga, .slice Aa na ca, .slice Ca ma da, .int .i64 ra])) (hvb : Vldo w (Value.agg #[.int .i64 k7, .int .i64 p7, .int .i64 q7, .bool g7, .slice A7 n7 c7, .slice C7 m7 d7, .int .i64 r7]) (Value.agg #[.int .i64 kb, .int .i64 pb, .int .i64 qb, .bool gb, .slice Ab nb cb, .slice Cb mb db, .int .i64 rb])) (he : ((ka == 5) || (kb == 5)) = false) : BinG ⟨#[43]⟩ (Value.agg #[.int .i64 k8, .int .i64 p8, .int .i64 q8, .bool g8, .slice A8 n8 c8, .slice C8 m8 d8, .int .i64 r8]) (Value.agg #[.int .i64 k7, .int .i64 p7, .int .i64 q7, .bool g7, .slice A7 n7 c7, .slice C7 m7 d7, .int .i64 r7]) w := by
  rcases cls hxa.ok with ⟨za, rfl, hza⟩ | ⟨aa, ba, hja, nba, va⟩ | ⟨aa, ba, sa, hja, nba, sa0, sa1, sa2⟩
  · rcases cls hxb.ok with ⟨zb, rfl, hzb⟩ | ⟨ab, bb, hjb, nbb, vb⟩ | ⟨ab, bb, sb, hjb, nbb, sb0, sb1, sb2⟩
    · exact ⟨_, _, good_B _, fun w1 hp => bk_add_BB w1 (Lib.hid (hL.plus hp)) (Lib.hid (hva.plus hp)) (Lib.hid (hvb.plus hp)) (Lib.hid (hxa.plus hp)) (Lib.hid (hxb.plus hp)) he (FJ.stab _ _) (fun _ _ _ _ _ _ _ _ _ _ w2 _ h1 h2 => bigs_add_J w2 h1 h2)⟩
    · exact ⟨.undef, 1, good_s (by decide) (by decide), fun w1 hp => bk_add_BN w1 (Lib.hid (hL.plus hp)) (Lib.hid (hva.plus hp)) (Lib.hid (hvb.plus hp)) (Lib.hid (hxa.plus hp)) (Lib.hid (hxb.plus hp)) (Lib.hid hjb) nbb he⟩
    · exact ⟨.undef, sb, good_s sb1 sb2, fun w1 hp => bk_add_BS w1 (Lib.hid (hL.plus hp)) (Lib.hid (hva.plus hp)) (Lib.hid (hvb.plus hp)) (Lib.hid (hxa.plus hp)) (Lib.hid (hxb.plus hp)) (Lib.hid hjb) nbb (by simp [sb0]) he⟩
  · rcases cls hxb.ok with ⟨zb, rfl, hzb⟩ | ⟨ab, bb, hjb, nbb, vb⟩ | ⟨ab, bb, sb, hjb, nbb, sb0, sb1, sb2⟩
    · exact ⟨.undef, 1, good_s (by decide) (by decide), fun w1 hp => bk_add_NB w1 (Lib.hid (hL.plus hp)) (Lib.hid (hva.plus hp)) (Lib.hid (hvb.plus hp)) (Lib.hid (hxa.plus hp)) (Lib.hid hja) nba (Lib.hid (hxb.plus hp)) he⟩
    · exact ⟨_, _, good_A _, fun w1 hp => bk_add_NN w1 (Lib.hid (hL.plus hp)) (Lib.hid (hva.plus hp)) (Lib.hid (hvb.plus hp)) (Lib.hid (hxa.plus hp)) (Lib.hid hja) nba (Lib.hid (hxb.plus hp)) (Lib.hid hjb) nbb he (FJ.stab _ _) (fun w2 _ => nums_add_J _ _ _ _ (add_V _ _ _ _) w2)⟩
    · exact ⟨.undef, sb, good_s sb1 sb2, fun w1 hp => bk_add_NS w1 (Lib.hid (hL.plus hp)) (Lib.hid (hva.plus hp)) (Lib.hid (hvb.plus hp)) (Lib.hid (hxa.plus hp)) (Lib.hid hja) nba (Lib.hid (hxb.plus hp)) (Lib.hid hjb) nbb (by simp [sb0]) he⟩
  · exact ⟨.undef, sa, good_s sa1 sa2, fun w1 hp => bk_add_SX w1 (Lib.hid (hL.plus hp)) (Lib.hid (hva.plus hp)) (Lib.hid (hvb.plus hp)) (Lib.hid (hxa.plus hp)) (Lib.hid hja) nba (by simp [sa0]) he⟩
theorem bg_add {xa xb : JV} (w : World) (hL : Lai w) (hxa : NV w (Value.agg #[.int .i64 ka, .int .i64 pa, .int .i64 qa, .bool ga, .slice Aa na ca, .slice Ca ma da, .int .i64 ra]) xa) (hxb : NV w (Value.agg #[.int .i64 kb, .int .i64 pb, .int .i64 qb, .bool gb, .slice Ab nb cb, .slice Cb mb db, .int .i64 rb]) xb) (hva : Vldo w (Value.agg #[.int .i64 k8, .int .i64 p8, .int .i64 q8, .bool g8, .slice A8 n8 c8, .slice C8 m8 d8, .int .i64 r8]) (Value.agg #[.int .i64 ka, .int .i64 pa, .int .i64 qa, .bool ga, .slice Aa na ca, .slice Ca ma da, .int .i64 ra])) (hvb : Vldo w (Value.agg #[.int .i64 k7, .int .i64 p7, .int .i64 q7, .bool g7, .slice A7 n7 c7, .slice C7 m7 d7, .int .i64 r7]) (Value.agg #[.int .i64 kb, .int .i64 pb, .int .i64 qb, .bool gb, .slice Ab nb cb, .slice Cb mb db, .int .i64 rb])) : BinG ⟨#[43]⟩ (Value.agg #[.int .i64 k8, .int .i64 p8, .int .i64 q8, .bool g8, .slice A8 n8 c8, .slice C8 m8 d8, .int .i64 r8]) (Value.agg #[.int .i64 k7, .int .i64 p7, .int .i64 q7, .bool g7, .slice A7 n7 c7, .slice C7 m7 d7, .int .i64 r7]) w := by
  cases he : ((ka == 5) || (kb == 5))
  · exact bg_adda w hL hxa hxb hva hvb he
  · have la := txt_lt hxa.ok
    have lb := txt_lt hxb.ok
    obtain ⟨ta, sa, ha⟩ : ∃ t s, txtJ xa = ⟨t, s⟩ := ⟨_, _, rfl⟩
    obtain ⟨tb, sb, hb⟩ : ∃ t s, txtJ xb = ⟨t, s⟩ := ⟨_, _, rfl⟩
    have ga := txt_sig xa
    have gb := txt_sig xb
    rw [ha] at ga la
    rw [hb] at gb lb
    simp only at ga gb la lb
    rcases ga with rfl | rfl
    · rcases gb with rfl | rfl
      · by_cases hl : (4096 : Int) < (ta.length : Int) + tb.length
        · exact ⟨.undef, 3, good_s (by decide) (by decide), fun w1 hp => bk_txt_l w1 (Lib.hid (hL.plus hp)) (Lib.hid (hva.plus hp)) (Lib.hid (hvb.plus hp)) (Lib.hid (hxa.plus hp)) (Lib.hid ⟨ha, rfl⟩) (Lib.hid (hxb.plus hp)) (Lib.hid ⟨hb, rfl⟩) he la lb hl⟩
        · exact ⟨.text (ta ++ tb), 0, good_0 _, fun w1 hp => bk_txt_y (n := ta.length + tb.length) w1 (Lib.hid (hL.plus hp)) (Lib.hid (hva.plus hp)) (Lib.hid (hvb.plus hp)) (Lib.hid (hxa.plus hp)) (Lib.hid ⟨ha, rfl⟩) (Lib.hid (hxb.plus hp)) (Lib.hid ⟨hb, rfl⟩) he la lb (Lib.hid rfl) (by omega) hl⟩
      · exact ⟨.undef, 3, good_s (by decide) (by decide), fun w1 hp => bk_txt_s2 w1 (Lib.hid (hL.plus hp)) (Lib.hid (hva.plus hp)) (Lib.hid (hvb.plus hp)) (Lib.hid (hxa.plus hp)) (Lib.hid ⟨ha, rfl⟩) (Lib.hid (hxb.plus hp)) (Lib.hid ⟨hb, rfl⟩) he (by decide)⟩
    · exact ⟨.undef, 3, good_s (by decide) (by decide), fun w1 hp => bk_txt_s1 w1 (Lib.hid (hL.plus hp)) (Lib.hid (hva.plus hp)) (Lib.hid (hvb.plus hp)) (Lib.hid (hxa.plus hp)) (Lib.hid ⟨ha, rfl⟩) he (by decide)⟩
theorem bg_lt {xa xb : JV} (w : World) (hL : Lai w) (hxa : NV w (Value.agg #[.int .i64 ka, .int .i64 pa, .int .i64 qa, .bool ga, .slice Aa na ca, .slice Ca ma da, .int .i64 ra]) xa) (hxb : NV w (Value.agg #[.int .i64 kb, .int .i64 pb, .int .i64 qb, .bool gb, .slice Ab nb cb, .slice Cb mb db, .int .i64 rb]) xb) (hva : Vldo w (Value.agg #[.int .i64 k8, .int .i64 p8, .int .i64 q8, .bool g8, .slice A8 n8 c8, .slice C8 m8 d8, .int .i64 r8]) (Value.agg #[.int .i64 ka, .int .i64 pa, .int .i64 qa, .bool ga, .slice Aa na ca, .slice Ca ma da, .int .i64 ra])) (hvb : Vldo w (Value.agg #[.int .i64 k7, .int .i64 p7, .int .i64 q7, .bool g7, .slice A7 n7 c7, .slice C7 m7 d7, .int .i64 r7]) (Value.agg #[.int .i64 kb, .int .i64 pb, .int .i64 qb, .bool gb, .slice Ab nb cb, .slice Cb mb db, .int .i64 rb])) : BinG ⟨#[60]⟩ (Value.agg #[.int .i64 k8, .int .i64 p8, .int .i64 q8, .bool g8, .slice A8 n8 c8, .slice C8 m8 d8, .int .i64 r8]) (Value.agg #[.int .i64 k7, .int .i64 p7, .int .i64 q7, .bool g7, .slice A7 n7 c7, .slice C7 m7 d7, .int .i64 r7]) w := by
  cases hb5 : ((ka == 5) && (kb == 5))
  · cases h4 : ((ka == 4) || (kb == 4))
    · have na : ∀ z, xa ≠ .big z := fun z e => by have := (hxa.k4).2 ⟨z, e⟩; simp [this] at h4
      have nb : ∀ z, xb ≠ .big z := fun z e => by have := (hxb.k4).2 ⟨z, e⟩; simp [this] at h4
      rcases cls hxa.ok with ⟨za, e, _⟩ | ⟨aa, ba, hja, nba, va⟩ | ⟨aa, ba, sa, hja, nba, sa0, sa1, sa2⟩
      · exact absurd e (na za)
      · rcases cls hxb.ok with ⟨zb, e, _⟩ | ⟨ab, bb, hjb, nbb, vb⟩ | ⟨ab, bb, sb, hjb, nbb, sb0, sb1, sb2⟩
        · exact absurd e (nb zb)
        · cases e2 : (aa == 2)
          · cases e3 : (ab == 2)
            · exact ⟨.bool _, 0, good_0 _, fun w1 hp => bk_lt w1 (Lib.hid (hva.plus hp)) (Lib.hid (hvb.plus hp)) (by have q := (cmpn_NN w1 (Lib.hid (hL.plus hp)) (Lib.hid (hxa.plus hp)) (Lib.hid hja) nba (Lib.hid (hxb.plus hp)) (Lib.hid hjb) nbb hb5 h4); rw [e2, e3] at q; exact q)⟩
            · exact ⟨.bool false, 0, good_0 _, fun w1 hp => bk_lt_nan2 w1 (Lib.hid (hva.plus hp)) (Lib.hid (hvb.plus hp)) (by have q := (cmpn_NN w1 (Lib.hid (hL.plus hp)) (Lib.hid (hxa.plus hp)) (Lib.hid hja) nba (Lib.hid (hxb.plus hp)) (Lib.hid hjb) nbb hb5 h4); rw [e2, e3] at q; exact q)⟩
          · exact ⟨.bool false, 0, good_0 _, fun w1 hp => bk_lt_nan1 w1 (Lib.hid (hva.plus hp)) (Lib.hid (hvb.plus hp)) (by have q := (cmpn_NN w1 (Lib.hid (hL.plus hp)) (Lib.hid (hxa.plus hp)) (Lib.hid hja) nba (Lib.hid (hxb.plus hp)) (Lib.hid hjb) nbb hb5 h4); rw [e2] at q; exact q)⟩
        · exact ⟨.undef, sb, good_s sb1 sb2, fun w1 hp => bk_lt_S w1 (Lib.hid (hva.plus hp)) (Lib.hid (hvb.plus hp)) (by simp [sb0]) (fun w2 h2 => comp_NS_0 w2 (Lib.hid (hL.plus (hp.trans h2))) (Lib.hid (hxa.plus (hp.trans h2))) (Lib.hid hja) nba (Lib.hid (hxb.plus (hp.trans h2))) (Lib.hid hjb) nbb (by simp [sb0]) hb5 h4)⟩
      · exact ⟨.undef, sa, good_s sa1 sa2, fun w1 hp => bk_lt_S w1 (Lib.hid (hva.plus hp)) (Lib.hid (hvb.plus hp)) (by simp [sa0]) (fun w2 h2 => comp_SX_0 w2 (Lib.hid (hL.plus (hp.trans h2))) (Lib.hid (hxa.plus (hp.trans h2))) (Lib.hid hja) nba (by simp [sa0]) hb5 h4)⟩
    · cases h5 : ((ka == 5) || (kb == 5))
      · rcases cls hxa.ok with ⟨za, rfl, hza⟩ | ⟨aa, ba, hja, nba, va⟩ | ⟨aa, ba, sa, hja, nba, sa0, sa1, sa2⟩
        · rcases cls hxb.ok with ⟨zb, rfl, hzb⟩ | ⟨ab, bb, hjb, nbb, vb⟩ | ⟨ab, bb, sb, hjb, nbb, sb0, sb1, sb2⟩
          · exact ⟨.bool _, 0, good_0 _, fun w1 hp => bk_lt w1 (Lib.hid (hva.plus hp)) (Lib.hid (hvb.plus hp)) (cmpn_BB w1 (Lib.hid (hL.plus hp)) (Lib.hid (hxa.plus hp)) (Lib.hid (hxb.plus hp)) hb5 h4 h5)⟩
          · cases e3 : (ab == 2)
            · exact ⟨.bool _, 0, good_0 _, fun w1 hp => bk_lt w1 (Lib.hid (hva.plus hp)) (Lib.hid (hvb.plus hp)) (by have q := (cmpn_BN w1 (Lib.hid (hL.plus hp)) (Lib.hid (hxa.plus hp)) (Lib.hid (hxb.plus hp)) (Lib.hid hjb) nbb hb5 h4 h5 (Lib.hid (isV_b vb))); rw [e3] at q; exact q)⟩
            · exact ⟨.bool false, 0, good_0 _, fun w1 hp => bk_lt_nan2 w1 (Lib.hid (hva.plus hp)) (Lib.hid (hvb.plus hp)) (by have q := (cmpn_BN w1 (Lib.hid (hL.plus hp)) (Lib.hid (hxa.plus hp)) (Lib.hid (hxb.plus hp)) (Lib.hid hjb) nbb hb5 h4 h5 (Lib.hid (isV_b vb))); rw [e3] at q; exact q)⟩
          · exact ⟨.undef, sb, good_s sb1 sb2, fun w1 hp => bk_lt_S w1 (Lib.hid (hva.plus hp)) (Lib.hid (hvb.plus hp)) (by simp [sb0]) (fun w2 h2 => comp_BS_1 w2 (Lib.hid (hL.plus (hp.trans h2))) (Lib.hid (hxa.plus (hp.trans h2))) (Lib.hid (hxb.plus (hp.trans h2))) (Lib.hid hjb) nbb (by simp [sb0]) hb5 h4 h5)⟩
        · rcases cls hxb.ok with ⟨zb, rfl, hzb⟩ | ⟨ab, bb, hjb, nbb, vb⟩ | ⟨ab, bb, sb, hjb, nbb, sb0, sb1, sb2⟩
          · cases e2 : (aa == 2)
            · exact ⟨.bool _, 0, good_0 _, fun w1 hp => bk_lt w1 (Lib.hid (hva.plus hp)) (Lib.hid (hvb.plus hp)) (by have q := (cmpn_NB w1 (Lib.hid (hL.plus hp)) (Lib.hid (hxa.plus hp)) (Lib.hid hja) nba (Lib.hid (hxb.plus hp)) hb5 h4 h5 (Lib.hid (isV_b va))); rw [e2] at q; exact q)⟩
            · exact ⟨.bool false, 0, good_0 _, fun w1 hp => bk_lt_nan1 w1 (Lib.hid (hva.plus hp)) (Lib.hid (hvb.plus hp)) (by have q := (cmpn_NB w1 (Lib.hid (hL.plus hp)) (Lib.hid (hxa.plus hp)) (Lib.hid hja) nba (Lib.hid (hxb.plus hp)) hb5 h4 h5 (Lib.hid (isV_b va))); rw [e2] at q; exact q)⟩
          · exact absurd (by rw [Bool.or_eq_true] at h4; rcases h4 with h4 | h4; exact (hxa.k4.1 h4).elim (fun z e => nba z e); exact (hxb.k4.1 h4).elim (fun z e => nbb z e)) id
          · exact absurd (by rw [Bool.or_eq_true] at h4; rcases h4 with h4 | h4; exact (hxa.k4.1 h4).elim (fun z e => nba z e); exact (hxb.k4.1 h4).elim (fun z e => nbb z e)) id
        · exact ⟨.undef, sa, good_s sa1 sa2, fun w1 hp => bk_lt_S w1 (Lib.hid (hva.plus hp)) (Lib.hid (hvb.plus hp)) (by simp [sa0]) (fun w2 h2 => comp_SX_1 w2 (Lib.hid (hL.plus (hp.trans h2))) (Lib.hid (hxa.plus (hp.trans h2))) (Lib.hid hja) nba (by simp [sa0]) hb5 h4 h5)⟩
      · exact ⟨.undef, 3, good_s (by decide) (by decide), fun w1 hp => bk_lt_S w1 (Lib.hid (hva.plus hp)) (Lib.hid (hvb.plus hp)) (by decide) (fun w2 _ => comp_BT w2 hb5 h4 h5)⟩
  · rw [Bool.and_eq_true] at hb5
    obtain ⟨us, rfl⟩ := hxa.k5.1 hb5.1
    obtain ⟨vs, rfl⟩ := hxb.k5.1 hb5.2
    obtain ⟨A1, C1, c1, m1, d1, e1, q1⟩ := nv_t5 hxa
    obtain ⟨A2, C2, c2, m2, d2, e2, q2⟩ := nv_t5 hxb
    rw [e1] at hva
    rw [e2] at hvb
    exact ⟨.bool _, 0, good_0 _, fun w1 hp => bk_lt w1 (Lib.hid (hva.plus hp)) (Lib.hid (hvb.plus hp)) (cmpn_TT w1 (q1.plus hp) (q2.plus hp))⟩
theorem bg_gt {xa xb : JV} (w : World) (hL : Lai w) (hxa : NV w (Value.agg #[.int .i64 ka, .int .i64 pa, .int .i64 qa, .bool ga, .slice Aa na ca, .slice Ca ma da, .int .i64 ra]) xa) (hxb : NV w (Value.agg #[.int .i64 kb, .int .i64 pb, .int .i64 qb, .bool gb, .slice Ab nb cb, .slice Cb mb db, .int .i64 rb]) xb) (hva : Vldo w (Value.agg #[.int .i64 k8, .int .i64 p8, .int .i64 q8, .bool g8, .slice A8 n8 c8, .slice C8 m8 d8, .int .i64 r8]) (Value.agg #[.int .i64 ka, .int .i64 pa, .int .i64 qa, .bool ga, .slice Aa na ca, .slice Ca ma da, .int .i64 ra])) (hvb : Vldo w (Value.agg #[.int .i64 k7, .int .i64 p7, .int .i64 q7, .bool g7, .slice A7 n7 c7, .slice C7 m7 d7, .int .i64 r7]) (Value.agg #[.int .i64 kb, .int .i64 pb, .int .i64 qb, .bool gb, .slice Ab nb cb, .slice Cb mb db, .int .i64 rb])) : BinG ⟨#[62]⟩ (Value.agg #[.int .i64 k8, .int .i64 p8, .int .i64 q8, .bool g8, .slice A8 n8 c8, .slice C8 m8 d8, .int .i64 r8]) (Value.agg #[.int .i64 k7, .int .i64 p7, .int .i64 q7, .bool g7, .slice A7 n7 c7, .slice C7 m7 d7, .int .i64 r7]) w := by
  cases hb5 : ((ka == 5) && (kb == 5))
  · cases h4 : ((ka == 4) || (kb == 4))
    · have na : ∀ z, xa ≠ .big z := fun z e => by have := (hxa.k4).2 ⟨z, e⟩; simp [this] at h4
      have nb : ∀ z, xb ≠ .big z := fun z e => by have := (hxb.k4).2 ⟨z, e⟩; simp [this] at h4
      rcases cls hxa.ok with ⟨za, e, _⟩ | ⟨aa, ba, hja, nba, va⟩ | ⟨aa, ba, sa, hja, nba, sa0, sa1, sa2⟩
      · exact absurd e (na za)
      · rcases cls hxb.ok with ⟨zb, e, _⟩ | ⟨ab, bb, hjb, nbb, vb⟩ | ⟨ab, bb, sb, hjb, nbb, sb0, sb1, sb2⟩
        · exact absurd e (nb zb)
        · cases e2 : (aa == 2)
          · cases e3 : (ab == 2)
            · exact ⟨.bool _, 0, good_0 _, fun w1 hp => bk_gt w1 (Lib.hid (hva.plus hp)) (Lib.hid (hvb.plus hp)) (by have q := (cmpn_NN w1 (Lib.hid (hL.plus hp)) (Lib.hid (hxa.plus hp)) (Lib.hid hja) nba (Lib.hid (hxb.plus hp)) (Lib.hid hjb) nbb hb5 h4); rw [e2, e3] at q; exact q)⟩
            · exact ⟨.bool false, 0, good_0 _, fun w1 hp => bk_gt_nan2 w1 (Lib.hid (hva.plus hp)) (Lib.hid (hvb.plus hp)) (by have q := (cmpn_NN w1 (Lib.hid (hL.plus hp)) (Lib.hid (hxa.plus hp)) (Lib.hid hja) nba (Lib.hid (hxb.plus hp)) (Lib.hid hjb) nbb hb5 h4); rw [e2, e3] at q; exact q)⟩
          · exact ⟨.bool false, 0, good_0 _, fun w1 hp => bk_gt_nan1 w1 (Lib.hid (hva.plus hp)) (Lib.hid (hvb.plus hp)) (by have q := (cmpn_NN w1 (Lib.hid (hL.plus hp)) (Lib.hid (hxa.plus hp)) (Lib.hid hja) nba (Lib.hid (hxb.plus hp)) (Lib.hid hjb) nbb hb5 h4); rw [e2] at q; exact q)⟩
        · exact ⟨.undef, sb, good_s sb1 sb2, fun w1 hp => bk_gt_S w1 (Lib.hid (hva.plus hp)) (Lib.hid (hvb.plus hp)) (by simp [sb0]) (fun w2 h2 => comp_NS_0 w2 (Lib.hid (hL.plus (hp.trans h2))) (Lib.hid (hxa.plus (hp.trans h2))) (Lib.hid hja) nba (Lib.hid (hxb.plus (hp.trans h2))) (Lib.hid hjb) nbb (by simp [sb0]) hb5 h4)⟩
      · exact ⟨.undef, sa, good_s sa1 sa2, fun w1 hp => bk_gt_S w1 (Lib.hid (hva.plus hp)) (Lib.hid (hvb.plus hp)) (by simp [sa0]) (fun w2 h2 => comp_SX_0 w2 (Lib.hid (hL.plus (hp.trans h2))) (Lib.hid (hxa.plus (hp.trans h2))) (Lib.hid hja) nba (by simp [sa0]) hb5 h4)⟩
    · cases h5 : ((ka == 5) || (kb == 5))
      · rcases cls hxa.ok with ⟨za, rfl, hza⟩ | ⟨aa, ba, hja, nba, va⟩ | ⟨aa, ba, sa, hja, nba, sa0, sa1, sa2⟩
        · rcases cls hxb.ok with ⟨zb, rfl, hzb⟩ | ⟨ab, bb, hjb, nbb, vb⟩ | ⟨ab, bb, sb, hjb, nbb, sb0, sb1, sb2⟩
          · exact ⟨.bool _, 0, good_0 _, fun w1 hp => bk_gt w1 (Lib.hid (hva.plus hp)) (Lib.hid (hvb.plus hp)) (cmpn_BB w1 (Lib.hid (hL.plus hp)) (Lib.hid (hxa.plus hp)) (Lib.hid (hxb.plus hp)) hb5 h4 h5)⟩
          · cases e3 : (ab == 2)
            · exact ⟨.bool _, 0, good_0 _, fun w1 hp => bk_gt w1 (Lib.hid (hva.plus hp)) (Lib.hid (hvb.plus hp)) (by have q := (cmpn_BN w1 (Lib.hid (hL.plus hp)) (Lib.hid (hxa.plus hp)) (Lib.hid (hxb.plus hp)) (Lib.hid hjb) nbb hb5 h4 h5 (Lib.hid (isV_b vb))); rw [e3] at q; exact q)⟩
            · exact ⟨.bool false, 0, good_0 _, fun w1 hp => bk_gt_nan2 w1 (Lib.hid (hva.plus hp)) (Lib.hid (hvb.plus hp)) (by have q := (cmpn_BN w1 (Lib.hid (hL.plus hp)) (Lib.hid (hxa.plus hp)) (Lib.hid (hxb.plus hp)) (Lib.hid hjb) nbb hb5 h4 h5 (Lib.hid (isV_b vb))); rw [e3] at q; exact q)⟩
          · exact ⟨.undef, sb, good_s sb1 sb2, fun w1 hp => bk_gt_S w1 (Lib.hid (hva.plus hp)) (Lib.hid (hvb.plus hp)) (by simp [sb0]) (fun w2 h2 => comp_BS_1 w2 (Lib.hid (hL.plus (hp.trans h2))) (Lib.hid (hxa.plus (hp.trans h2))) (Lib.hid (hxb.plus (hp.trans h2))) (Lib.hid hjb) nbb (by simp [sb0]) hb5 h4 h5)⟩
        · rcases cls hxb.ok with ⟨zb, rfl, hzb⟩ | ⟨ab, bb, hjb, nbb, vb⟩ | ⟨ab, bb, sb, hjb, nbb, sb0, sb1, sb2⟩
          · cases e2 : (aa == 2)
            · exact ⟨.bool _, 0, good_0 _, fun w1 hp => bk_gt w1 (Lib.hid (hva.plus hp)) (Lib.hid (hvb.plus hp)) (by have q := (cmpn_NB w1 (Lib.hid (hL.plus hp)) (Lib.hid (hxa.plus hp)) (Lib.hid hja) nba (Lib.hid (hxb.plus hp)) hb5 h4 h5 (Lib.hid (isV_b va))); rw [e2] at q; exact q)⟩
            · exact ⟨.bool false, 0, good_0 _, fun w1 hp => bk_gt_nan1 w1 (Lib.hid (hva.plus hp)) (Lib.hid (hvb.plus hp)) (by have q := (cmpn_NB w1 (Lib.hid (hL.plus hp)) (Lib.hid (hxa.plus hp)) (Lib.hid hja) nba (Lib.hid (hxb.plus hp)) hb5 h4 h5 (Lib.hid (isV_b va))); rw [e2] at q; exact q)⟩
          · exact absurd (by rw [Bool.or_eq_true] at h4; rcases h4 with h4 | h4; exact (hxa.k4.1 h4).elim (fun z e => nba z e); exact (hxb.k4.1 h4).elim (fun z e => nbb z e)) id
          · exact absurd (by rw [Bool.or_eq_true] at h4; rcases h4 with h4 | h4; exact (hxa.k4.1 h4).elim (fun z e => nba z e); exact (hxb.k4.1 h4).elim (fun z e => nbb z e)) id
        · exact ⟨.undef, sa, good_s sa1 sa2, fun w1 hp => bk_gt_S w1 (Lib.hid (hva.plus hp)) (Lib.hid (hvb.plus hp)) (by simp [sa0]) (fun w2 h2 => comp_SX_1 w2 (Lib.hid (hL.plus (hp.trans h2))) (Lib.hid (hxa.plus (hp.trans h2))) (Lib.hid hja) nba (by simp [sa0]) hb5 h4 h5)⟩
      · exact ⟨.undef, 3, good_s (by decide) (by decide), fun w1 hp => bk_gt_S w1 (Lib.hid (hva.plus hp)) (Lib.hid (hvb.plus hp)) (by decide) (fun w2 _ => comp_BT w2 hb5 h4 h5)⟩
  · rw [Bool.and_eq_true] at hb5
    obtain ⟨us, rfl⟩ := hxa.k5.1 hb5.1
    obtain ⟨vs, rfl⟩ := hxb.k5.1 hb5.2
    obtain ⟨A1, C1, c1, m1, d1, e1, q1⟩ := nv_t5 hxa
    obtain ⟨A2, C2, c2, m2, d2, e2, q2⟩ := nv_t5 hxb
    rw [e1] at hva
    rw [e2] at hvb
    exact ⟨.bool _, 0, good_0 _, fun w1 hp => bk_gt w1 (Lib.hid (hva.plus hp)) (Lib.hid (hvb.plus hp)) (cmpn_TT w1 (q1.plus hp) (q2.plus hp))⟩
theorem bg_le {xa xb : JV} (w : World) (hL : Lai w) (hxa : NV w (Value.agg #[.int .i64 ka, .int .i64 pa, .int .i64 qa, .bool ga, .slice Aa na ca, .slice Ca ma da, .int .i64 ra]) xa) (hxb : NV w (Value.agg #[.int .i64 kb, .int .i64 pb, .int .i64 qb, .bool gb, .slice Ab nb cb, .slice Cb mb db, .int .i64 rb]) xb) (hva : Vldo w (Value.agg #[.int .i64 k8, .int .i64 p8, .int .i64 q8, .bool g8, .slice A8 n8 c8, .slice C8 m8 d8, .int .i64 r8]) (Value.agg #[.int .i64 ka, .int .i64 pa, .int .i64 qa, .bool ga, .slice Aa na ca, .slice Ca ma da, .int .i64 ra])) (hvb : Vldo w (Value.agg #[.int .i64 k7, .int .i64 p7, .int .i64 q7, .bool g7, .slice A7 n7 c7, .slice C7 m7 d7, .int .i64 r7]) (Value.agg #[.int .i64 kb, .int .i64 pb, .int .i64 qb, .bool gb, .slice Ab nb cb, .slice Cb mb db, .int .i64 rb])) : BinG ⟨#[60, 61]⟩ (Value.agg #[.int .i64 k8, .int .i64 p8, .int .i64 q8, .bool g8, .slice A8 n8 c8, .slice C8 m8 d8, .int .i64 r8]) (Value.agg #[.int .i64 k7, .int .i64 p7, .int .i64 q7, .bool g7, .slice A7 n7 c7, .slice C7 m7 d7, .int .i64 r7]) w := by
  cases hb5 : ((ka == 5) && (kb == 5))
  · cases h4 : ((ka == 4) || (kb == 4))
    · have na : ∀ z, xa ≠ .big z := fun z e => by have := (hxa.k4).2 ⟨z, e⟩; simp [this] at h4
      have nb : ∀ z, xb ≠ .big z := fun z e => by have := (hxb.k4).2 ⟨z, e⟩; simp [this] at h4
      rcases cls hxa.ok with ⟨za, e, _⟩ | ⟨aa, ba, hja, nba, va⟩ | ⟨aa, ba, sa, hja, nba, sa0, sa1, sa2⟩
      · exact absurd e (na za)
      · rcases cls hxb.ok with ⟨zb, e, _⟩ | ⟨ab, bb, hjb, nbb, vb⟩ | ⟨ab, bb, sb, hjb, nbb, sb0, sb1, sb2⟩
        · exact absurd e (nb zb)
        · cases e2 : (aa == 2)
          · cases e3 : (ab == 2)
            · exact ⟨.bool _, 0, good_0 _, fun w1 hp => bk_le w1 (Lib.hid (hva.plus hp)) (Lib.hid (hvb.plus hp)) (by have q := (cmpn_NN w1 (Lib.hid (hL.plus hp)) (Lib.hid (hxa.plus hp)) (Lib.hid hja) nba (Lib.hid (hxb.plus hp)) (Lib.hid hjb) nbb hb5 h4); rw [e2, e3] at q; exact q)⟩
            · exact ⟨.bool false, 0, good_0 _, fun w1 hp => bk_le_nan2 w1 (Lib.hid (hva.plus hp)) (Lib.hid (hvb.plus hp)) (by have q := (cmpn_NN w1 (Lib.hid (hL.plus hp)) (Lib.hid (hxa.plus hp)) (Lib.hid hja) nba (Lib.hid (hxb.plus hp)) (Lib.hid hjb) nbb hb5 h4); rw [e2, e3] at q; exact q)⟩
          · exact ⟨.bool false, 0, good_0 _, fun w1 hp => bk_le_nan1 w1 (Lib.hid (hva.plus hp)) (Lib.hid (hvb.plus hp)) (by have q := (cmpn_NN w1 (Lib.hid (hL.plus hp)) (Lib.hid (hxa.plus hp)) (Lib.hid hja) nba (Lib.hid (hxb.plus hp)) (Lib.hid hjb) nbb hb5 h4); rw [e2] at q; exact q)⟩
        · exact ⟨.undef, sb, good_s sb1 sb2, fun w1 hp => bk_le_S w1 (Lib.hid (hva.plus hp)) (Lib.hid (hvb.plus hp)) (by simp [sb0]) (fun w2 h2 => comp_NS_0 w2 (Lib.hid (hL.plus (hp.trans h2))) (Lib.hid (hxa.plus (hp.trans h2))) (Lib.hid hja) nba (Lib.hid (hxb.plus (hp.trans h2))) (Lib.hid hjb) nbb (by simp [sb0]) hb5 h4)⟩
      · exact ⟨.undef, sa, good_s sa1 sa2, fun w1 hp => bk_le_S w1 (Lib.hid (hva.plus hp)) (Lib.hid (hvb.plus hp)) (by simp [sa0]) (fun w2 h2 => comp_SX_0 w2 (Lib.hid (hL.plus (hp.trans h2))) (Lib.hid (hxa.plus (hp.trans h2))) (Lib.hid hja) nba (by simp [sa0]) hb5 h4)⟩
    · cases h5 : ((ka == 5) || (kb == 5))
      · rcases cls hxa.ok with ⟨za, rfl, hza⟩ | ⟨aa, ba, hja, nba, va⟩ | ⟨aa, ba, sa, hja, nba, sa0, sa1, sa2⟩
        · rcases cls hxb.ok with ⟨zb, rfl, hzb⟩ | ⟨ab, bb, hjb, nbb, vb⟩ | ⟨ab, bb, sb, hjb, nbb, sb0, sb1, sb2⟩
          · exact ⟨.bool _, 0, good_0 _, fun w1 hp => bk_le w1 (Lib.hid (hva.plus hp)) (Lib.hid (hvb.plus hp)) (cmpn_BB w1 (Lib.hid (hL.plus hp)) (Lib.hid (hxa.plus hp)) (Lib.hid (hxb.plus hp)) hb5 h4 h5)⟩
          · cases e3 : (ab == 2)
            · exact ⟨.bool _, 0, good_0 _, fun w1 hp => bk_le w1 (Lib.hid (hva.plus hp)) (Lib.hid (hvb.plus hp)) (by have q := (cmpn_BN w1 (Lib.hid (hL.plus hp)) (Lib.hid (hxa.plus hp)) (Lib.hid (hxb.plus hp)) (Lib.hid hjb) nbb hb5 h4 h5 (Lib.hid (isV_b vb))); rw [e3] at q; exact q)⟩
            · exact ⟨.bool false, 0, good_0 _, fun w1 hp => bk_le_nan2 w1 (Lib.hid (hva.plus hp)) (Lib.hid (hvb.plus hp)) (by have q := (cmpn_BN w1 (Lib.hid (hL.plus hp)) (Lib.hid (hxa.plus hp)) (Lib.hid (hxb.plus hp)) (Lib.hid hjb) nbb hb5 h4 h5 (Lib.hid (isV_b vb))); rw [e3] at q; exact q)⟩
          · exact ⟨.undef, sb, good_s sb1 sb2, fun w1 hp => bk_le_S w1 (Lib.hid (hva.plus hp)) (Lib.hid (hvb.plus hp)) (by simp [sb0]) (fun w2 h2 => comp_BS_1 w2 (Lib.hid (hL.plus (hp.trans h2))) (Lib.hid (hxa.plus (hp.trans h2))) (Lib.hid (hxb.plus (hp.trans h2))) (Lib.hid hjb) nbb (by simp [sb0]) hb5 h4 h5)⟩
        · rcases cls hxb.ok with ⟨zb, rfl, hzb⟩ | ⟨ab, bb, hjb, nbb, vb⟩ | ⟨ab, bb, sb, hjb, nbb, sb0, sb1, sb2⟩
          · cases e2 : (aa == 2)
            · exact ⟨.bool _, 0, good_0 _, fun w1 hp => bk_le w1 (Lib.hid (hva.plus hp)) (Lib.hid (hvb.plus hp)) (by have q := (cmpn_NB w1 (Lib.hid (hL.plus hp)) (Lib.hid (hxa.plus hp)) (Lib.hid hja) nba (Lib.hid (hxb.plus hp)) hb5 h4 h5 (Lib.hid (isV_b va))); rw [e2] at q; exact q)⟩
            · exact ⟨.bool false, 0, good_0 _, fun w1 hp => bk_le_nan1 w1 (Lib.hid (hva.plus hp)) (Lib.hid (hvb.plus hp)) (by have q := (cmpn_NB w1 (Lib.hid (hL.plus hp)) (Lib.hid (hxa.plus hp)) (Lib.hid hja) nba (Lib.hid (hxb.plus hp)) hb5 h4 h5 (Lib.hid (isV_b va))); rw [e2] at q; exact q)⟩
          · exact absurd (by rw [Bool.or_eq_true] at h4; rcases h4 with h4 | h4; exact (hxa.k4.1 h4).elim (fun z e => nba z e); exact (hxb.k4.1 h4).elim (fun z e => nbb z e)) id
          · exact absurd (by rw [Bool.or_eq_true] at h4; rcases h4 with h4 | h4; exact (hxa.k4.1 h4).elim (fun z e => nba z e); exact (hxb.k4.1 h4).elim (fun z e => nbb z e)) id
        · exact ⟨.undef, sa, good_s sa1 sa2, fun w1 hp => bk_le_S w1 (Lib.hid (hva.plus hp)) (Lib.hid (hvb.plus hp)) (by simp [sa0]) (fun w2 h2 => comp_SX_1 w2 (Lib.hid (hL.plus (hp.trans h2))) (Lib.hid (hxa.plus (hp.trans h2))) (Lib.hid hja) nba (by simp [sa0]) hb5 h4 h5)⟩
      · exact ⟨.undef, 3, good_s (by decide) (by decide), fun w1 hp => bk_le_S w1 (Lib.hid (hva.plus hp)) (Lib.hid (hvb.plus hp)) (by decide) (fun w2 _ => comp_BT w2 hb5 h4 h5)⟩
  · rw [Bool.and_eq_true] at hb5
    obtain ⟨us, rfl⟩ := hxa.k5.1 hb5.1
    obtain ⟨vs, rfl⟩ := hxb.k5.1 hb5.2
    obtain ⟨A1, C1, c1, m1, d1, e1, q1⟩ := nv_t5 hxa
    obtain ⟨A2, C2, c2, m2, d2, e2, q2⟩ := nv_t5 hxb
    rw [e1] at hva
    rw [e2] at hvb
    exact ⟨.bool _, 0, good_0 _, fun w1 hp => bk_le w1 (Lib.hid (hva.plus hp)) (Lib.hid (hvb.plus hp)) (cmpn_TT w1 (q1.plus hp) (q2.plus hp))⟩
theorem bg_ge {xa xb : JV} (w : World) (hL : Lai w) (hxa : NV w (Value.agg #[.int .i64 ka, .int .i64 pa, .int .i64 qa, .bool ga, .slice Aa na ca, .slice Ca ma da, .int .i64 ra]) xa) (hxb : NV w (Value.agg #[.int .i64 kb, .int .i64 pb, .int .i64 qb, .bool gb, .slice Ab nb cb, .slice Cb mb db, .int .i64 rb]) xb) (hva : Vldo w (Value.agg #[.int .i64 k8, .int .i64 p8, .int .i64 q8, .bool g8, .slice A8 n8 c8, .slice C8 m8 d8, .int .i64 r8]) (Value.agg #[.int .i64 ka, .int .i64 pa, .int .i64 qa, .bool ga, .slice Aa na ca, .slice Ca ma da, .int .i64 ra])) (hvb : Vldo w (Value.agg #[.int .i64 k7, .int .i64 p7, .int .i64 q7, .bool g7, .slice A7 n7 c7, .slice C7 m7 d7, .int .i64 r7]) (Value.agg #[.int .i64 kb, .int .i64 pb, .int .i64 qb, .bool gb, .slice Ab nb cb, .slice Cb mb db, .int .i64 rb])) : BinG ⟨#[62, 61]⟩ (Value.agg #[.int .i64 k8, .int .i64 p8, .int .i64 q8, .bool g8, .slice A8 n8 c8, .slice C8 m8 d8, .int .i64 r8]) (Value.agg #[.int .i64 k7, .int .i64 p7, .int .i64 q7, .bool g7, .slice A7 n7 c7, .slice C7 m7 d7, .int .i64 r7]) w := by
  cases hb5 : ((ka == 5) && (kb == 5))
  · cases h4 : ((ka == 4) || (kb == 4))
    · have na : ∀ z, xa ≠ .big z := fun z e => by have := (hxa.k4).2 ⟨z, e⟩; simp [this] at h4
      have nb : ∀ z, xb ≠ .big z := fun z e => by have := (hxb.k4).2 ⟨z, e⟩; simp [this] at h4
      rcases cls hxa.ok with ⟨za, e, _⟩ | ⟨aa, ba, hja, nba, va⟩ | ⟨aa, ba, sa, hja, nba, sa0, sa1, sa2⟩
      · exact absurd e (na za)
      · rcases cls hxb.ok with ⟨zb, e, _⟩ | ⟨ab, bb, hjb, nbb, vb⟩ | ⟨ab, bb, sb, hjb, nbb, sb0, sb1, sb2⟩
        · exact absurd e (nb zb)
        · cases e2 : (aa == 2)
          · cases e3 : (ab == 2)
            · exact ⟨.bool _, 0, good_0 _, fun w1 hp => bk_ge w1 (Lib.hid (hva.plus hp)) (Lib.hid (hvb.plus hp)) (by have q := (cmpn_NN w1 (Lib.hid (hL.plus hp)) (Lib.hid (hxa.plus hp)) (Lib.hid hja) nba (Lib.hid (hxb.plus hp)) (Lib.hid hjb) nbb hb5 h4); rw [e2, e3] at q; exact q)⟩
            · exact ⟨.bool false, 0, good_0 _, fun w1 hp => bk_ge_nan2 w1 (Lib.hid (hva.plus hp)) (Lib.hid (hvb.plus hp)) (by have q := (cmpn_NN w1 (Lib.hid (hL.plus hp)) (Lib.hid (hxa.plus hp)) (Lib.hid hja) nba (Lib.hid (hxb.plus hp)) (Lib.hid hjb) nbb hb5 h4); rw [e2, e3] at q; exact q)⟩
          · exact ⟨.bool false, 0, good_0 _, fun w1 hp => bk_ge_nan1 w1 (Lib.hid (hva.plus hp)) (Lib.hid (hvb.plus hp)) (by have q := (cmpn_NN w1 (Lib.hid (hL.plus hp)) (Lib.hid (hxa.plus hp)) (Lib.hid hja) nba (Lib.hid (hxb.plus hp)) (Lib.hid hjb) nbb hb5 h4); rw [e2] at q; exact q)⟩
        · exact ⟨.undef, sb, good_s sb1 sb2, fun w1 hp => bk_ge_S w1 (Lib.hid (hva.plus hp)) (Lib.hid (hvb.plus hp)) (by simp [sb0]) (fun w2 h2 => comp_NS_0 w2 (Lib.hid (hL.plus (hp.trans h2))) (Lib.hid (hxa.plus (hp.trans h2))) (Lib.hid hja) nba (Lib.hid (hxb.plus (hp.trans h2))) (Lib.hid hjb) nbb (by simp [sb0]) hb5 h4)⟩
      · exact ⟨.undef, sa, good_s sa1 sa2, fun w1 hp => bk_ge_S w1 (Lib.hid (hva.plus hp)) (Lib.hid (hvb.plus hp)) (by simp [sa0]) (fun w2 h2 => comp_SX_0 w2 (Lib.hid (hL.plus (hp.trans h2))) (Lib.hid (hxa.plus (hp.trans h2))) (Lib.hid hja) nba (by simp [sa0]) hb5 h4)⟩
    · cases h5 : ((ka == 5) || (kb == 5))
      · rcases cls hxa.ok with ⟨za, rfl, hza⟩ | ⟨aa, ba, hja, nba, va⟩ | ⟨aa, ba, sa, hja, nba, sa0, sa1, sa2⟩
        · rcases cls hxb.ok with ⟨zb, rfl, hzb⟩ | ⟨ab, bb, hjb, nbb, vb⟩ | ⟨ab, bb, sb, hjb, nbb, sb0, sb1, sb2⟩
          · exact ⟨.bool _, 0, good_0 _, fun w1 hp => bk_ge w1 (Lib.hid (hva.plus hp)) (Lib.hid (hvb.plus hp)) (cmpn_BB w1 (Lib.hid (hL.plus hp)) (Lib.hid (hxa.plus hp)) (Lib.hid (hxb.plus hp)) hb5 h4 h5)⟩
          · cases e3 : (ab == 2)
            · exact ⟨.bool _, 0, good_0 _, fun w1 hp => bk_ge w1 (Lib.hid (hva.plus hp)) (Lib.hid (hvb.plus hp)) (by have q := (cmpn_BN w1 (Lib.hid (hL.plus hp)) (Lib.hid (hxa.plus hp)) (Lib.hid (hxb.plus hp)) (Lib.hid hjb) nbb hb5 h4 h5 (Lib.hid (isV_b vb))); rw [e3] at q; exact q)⟩
            · exact ⟨.bool false, 0, good_0 _, fun w1 hp => bk_ge_nan2 w1 (Lib.hid (hva.plus hp)) (Lib.hid (hvb.plus hp)) (by have q := (cmpn_BN w1 (Lib.hid (hL.plus hp)) (Lib.hid (hxa.plus hp)) (Lib.hid (hxb.plus hp)) (Lib.hid hjb) nbb hb5 h4 h5 (Lib.hid (isV_b vb))); rw [e3] at q; exact q)⟩
          · exact ⟨.undef, sb, good_s sb1 sb2, fun w1 hp => bk_ge_S w1 (Lib.hid (hva.plus hp)) (Lib.hid (hvb.plus hp)) (by simp [sb0]) (fun w2 h2 => comp_BS_1 w2 (Lib.hid (hL.plus (hp.trans h2))) (Lib.hid (hxa.plus (hp.trans h2))) (Lib.hid (hxb.plus (hp.trans h2))) (Lib.hid hjb) nbb (by simp [sb0]) hb5 h4 h5)⟩
        · rcases cls hxb.ok with ⟨zb, rfl, hzb⟩ | ⟨ab, bb, hjb, nbb, vb⟩ | ⟨ab, bb, sb, hjb, nbb, sb0, sb1, sb2⟩
          · cases e2 : (aa == 2)
            · exact ⟨.bool _, 0, good_0 _, fun w1 hp => bk_ge w1 (Lib.hid (hva.plus hp)) (Lib.hid (hvb.plus hp)) (by have q := (cmpn_NB w1 (Lib.hid (hL.plus hp)) (Lib.hid (hxa.plus hp)) (Lib.hid hja) nba (Lib.hid (hxb.plus hp)) hb5 h4 h5 (Lib.hid (isV_b va))); rw [e2] at q; exact q)⟩
            · exact ⟨.bool false, 0, good_0 _, fun w1 hp => bk_ge_nan1 w1 (Lib.hid (hva.plus hp)) (Lib.hid (hvb.plus hp)) (by have q := (cmpn_NB w1 (Lib.hid (hL.plus hp)) (Lib.hid (hxa.plus hp)) (Lib.hid hja) nba (Lib.hid (hxb.plus hp)) hb5 h4 h5 (Lib.hid (isV_b va))); rw [e2] at q; exact q)⟩
          · exact absurd (by rw [Bool.or_eq_true] at h4; rcases h4 with h4 | h4; exact (hxa.k4.1 h4).elim (fun z e => nba z e); exact (hxb.k4.1 h4).elim (fun z e => nbb z e)) id
          · exact absurd (by rw [Bool.or_eq_true] at h4; rcases h4 with h4 | h4; exact (hxa.k4.1 h4).elim (fun z e => nba z e); exact (hxb.k4.1 h4).elim (fun z e => nbb z e)) id
        · exact ⟨.undef, sa, good_s sa1 sa2, fun w1 hp => bk_ge_S w1 (Lib.hid (hva.plus hp)) (Lib.hid (hvb.plus hp)) (by simp [sa0]) (fun w2 h2 => comp_SX_1 w2 (Lib.hid (hL.plus (hp.trans h2))) (Lib.hid (hxa.plus (hp.trans h2))) (Lib.hid hja) nba (by simp [sa0]) hb5 h4 h5)⟩
      · exact ⟨.undef, 3, good_s (by decide) (by decide), fun w1 hp => bk_ge_S w1 (Lib.hid (hva.plus hp)) (Lib.hid (hvb.plus hp)) (by decide) (fun w2 _ => comp_BT w2 hb5 h4 h5)⟩
  · rw [Bool.and_eq_true] at hb5
    obtain ⟨us, rfl⟩ := hxa.k5.1 hb5.1
    obtain ⟨vs, rfl⟩ := hxb.k5.1 hb5.2
    obtain ⟨A1, C1, c1, m1, d1, e1, q1⟩ := nv_t5 hxa
    obtain ⟨A2, C2, c2, m2, d2, e2, q2⟩ := nv_t5 hxb
    rw [e1] at hva
    rw [e2] at hvb
    exact ⟨.bool _, 0, good_0 _, fun w1 hp => bk_ge w1 (Lib.hid (hva.plus hp)) (Lib.hid (hvb.plus hp)) (cmpn_TT w1 (q1.plus hp) (q2.plus hp))⟩
end Go.Proofs.YtgljfgkkolfnbaaGreatDoor

namespace Go.Proofs.YtgljfgkkolfnbaaGreatDoor
open Go.RowKit
variable {k8 p8 q8 : Int} {g8 : Bool} {A8 C8 : Option Addr} {n8 c8 m8 d8 : Nat} {r8 : Int}
variable {k7 p7 q7 : Int} {g7 : Bool} {A7 C7 : Option Addr} {n7 c7 m7 d7 : Nat} {r7 : Int}
variable {ka pa qa : Int} {ga : Bool} {Aa Ca : Option Addr} {na ca ma da : Nat} {ra : Int}
variable {kb pb qb : Int} {gb : Bool} {Ab Cb : Option Addr} {nb cb mb db : Nat} {rb : Int}

theorem bg_seq {xa xb : JV} (w : World) (hxa : NV w (Value.agg #[.int .i64 ka, .int .i64 pa, .int .i64 qa, .bool ga, .slice Aa na ca, .slice Ca ma da, .int .i64 ra]) xa) (hxb : NV w (Value.agg #[.int .i64 kb, .int .i64 pb, .int .i64 qb, .bool gb, .slice Ab nb cb, .slice Cb mb db, .int .i64 rb]) xb) (hva : Vldo w (Value.agg #[.int .i64 k8, .int .i64 p8, .int .i64 q8, .bool g8, .slice A8 n8 c8, .slice C8 m8 d8, .int .i64 r8]) (Value.agg #[.int .i64 ka, .int .i64 pa, .int .i64 qa, .bool ga, .slice Aa na ca, .slice Ca ma da, .int .i64 ra])) (hvb : Vldo w (Value.agg #[.int .i64 k7, .int .i64 p7, .int .i64 q7, .bool g7, .slice A7 n7 c7, .slice C7 m7 d7, .int .i64 r7]) (Value.agg #[.int .i64 kb, .int .i64 pb, .int .i64 qb, .bool gb, .slice Ab nb cb, .slice Cb mb db, .int .i64 rb])) : BinG ⟨#[61, 61, 61]⟩ (Value.agg #[.int .i64 k8, .int .i64 p8, .int .i64 q8, .bool g8, .slice A8 n8 c8, .slice C8 m8 d8, .int .i64 r8]) (Value.agg #[.int .i64 k7, .int .i64 p7, .int .i64 q7, .bool g7, .slice A7 n7 c7, .slice C7 m7 d7, .int .i64 r7]) w := by
  cases hz : strictJ xa xb
  · exact ⟨.bool false, 0, good_0 _, fun w1 hp => (bin_seq_f w1 (Lib.hid (hva.plus hp)) (Lib.hid (hvb.plus hp)) (Lib.hid (hxa.plus hp)) (Lib.hid (hxb.plus hp)) (Lib.hid hz)).mono fun _ _ h => retF_bool h⟩
  · exact ⟨.bool true, 0, good_0 _, fun w1 hp => (bin_seq_t w1 (Lib.hid (hva.plus hp)) (Lib.hid (hvb.plus hp)) (Lib.hid (hxa.plus hp)) (Lib.hid (hxb.plus hp)) (Lib.hid hz)).mono fun _ _ h => retF_bool h⟩
theorem bg_sne {xa xb : JV} (w : World) (hxa : NV w (Value.agg #[.int .i64 ka, .int .i64 pa, .int .i64 qa, .bool ga, .slice Aa na ca, .slice Ca ma da, .int .i64 ra]) xa) (hxb : NV w (Value.agg #[.int .i64 kb, .int .i64 pb, .int .i64 qb, .bool gb, .slice Ab nb cb, .slice Cb mb db, .int .i64 rb]) xb) (hva : Vldo w (Value.agg #[.int .i64 k8, .int .i64 p8, .int .i64 q8, .bool g8, .slice A8 n8 c8, .slice C8 m8 d8, .int .i64 r8]) (Value.agg #[.int .i64 ka, .int .i64 pa, .int .i64 qa, .bool ga, .slice Aa na ca, .slice Ca ma da, .int .i64 ra])) (hvb : Vldo w (Value.agg #[.int .i64 k7, .int .i64 p7, .int .i64 q7, .bool g7, .slice A7 n7 c7, .slice C7 m7 d7, .int .i64 r7]) (Value.agg #[.int .i64 kb, .int .i64 pb, .int .i64 qb, .bool gb, .slice Ab nb cb, .slice Cb mb db, .int .i64 rb])) : BinG ⟨#[33, 61, 61]⟩ (Value.agg #[.int .i64 k8, .int .i64 p8, .int .i64 q8, .bool g8, .slice A8 n8 c8, .slice C8 m8 d8, .int .i64 r8]) (Value.agg #[.int .i64 k7, .int .i64 p7, .int .i64 q7, .bool g7, .slice A7 n7 c7, .slice C7 m7 d7, .int .i64 r7]) w := by
  cases hz : strictJ xa xb
  · exact ⟨.bool true, 0, good_0 _, fun w1 hp => (bin_sne_f w1 (Lib.hid (hva.plus hp)) (Lib.hid (hvb.plus hp)) (Lib.hid (hxa.plus hp)) (Lib.hid (hxb.plus hp)) (Lib.hid hz)).mono fun _ _ h => retF_bool h⟩
  · exact ⟨.bool false, 0, good_0 _, fun w1 hp => (bin_sne_t w1 (Lib.hid (hva.plus hp)) (Lib.hid (hvb.plus hp)) (Lib.hid (hxa.plus hp)) (Lib.hid (hxb.plus hp)) (Lib.hid hz)).mono fun _ _ h => retF_bool h⟩
theorem bg_none {op : ByteArray} (w : World) (hva : Vldo w (Value.agg #[.int .i64 k8, .int .i64 p8, .int .i64 q8, .bool g8, .slice A8 n8 c8, .slice C8 m8 d8, .int .i64 r8]) (Value.agg #[.int .i64 ka, .int .i64 pa, .int .i64 qa, .bool ga, .slice Aa na ca, .slice Ca ma da, .int .i64 ra])) (hvb : Vldo w (Value.agg #[.int .i64 k7, .int .i64 p7, .int .i64 q7, .bool g7, .slice A7 n7 c7, .slice C7 m7 d7, .int .i64 r7]) (Value.agg #[.int .i64 kb, .int .i64 pb, .int .i64 qb, .bool gb, .slice Ab nb cb, .slice Cb mb db, .int .i64 rb])) (b0 : (op.toList == [43]) = false) (b1 : (op.toList == [45]) = false) (b2 : (op.toList == [42]) = false) (b3 : (op.toList == [47]) = false) (b4 : (op.toList == [37]) = false) (b5 : (op.toList == [38]) = false) (b6 : (op.toList == [124]) = false) (b7 : (op.toList == [94]) = false) (b8 : (op.toList == [60, 60]) = false) (b9 : (op.toList == [62, 62]) = false) (b10 : (op.toList == [62, 62, 62]) = false) (b11 : (op.toList == [60]) = false) (b12 : (op.toList == [62]) = false) (b13 : (op.toList == [60, 61]) = false) (b14 : (op.toList == [62, 61]) = false) (b15 : (op.toList == [61, 61, 61]) = false) (b16 : (op.toList == [33, 61, 61]) = false) (b17 : (op.toList == [61, 61]) = false) (b18 : (op.toList == [33, 61]) = false) : BinG op (Value.agg #[.int .i64 k8, .int .i64 p8, .int .i64 q8, .bool g8, .slice A8 n8 c8, .slice C8 m8 d8, .int .i64 r8]) (Value.agg #[.int .i64 k7, .int .i64 p7, .int .i64 q7, .bool g7, .slice A7 n7 c7, .slice C7 m7 d7, .int .i64 r7]) w :=
  ⟨.undef, 3, good_s (by decide) (by decide), fun w1 hp => (bin_none w1 (Lib.hid (hva.plus hp)) (Lib.hid (hvb.plus hp)) b0 b1 b2 b3 b4 b5 b6 b7 b8 b9 b10 b11 b12 b13 b14 b15 b16 b17 b18).mono fun _ _ h => retF_nil h⟩
def UnG (op : ByteArray) (U : Value) (w : World) : Prop := ∃ z t, Good z t ∧ ∀ w1, Plus w w1 → Calls Tryz.prog 13 #[.string op, U] w1 (RetF (FJ z t) w1)
theorem ug_not {k p q : Int} {g : Bool} {A C : Option Addr} {n c m d : Nat} {r : Int} {u : Value} {x : JV} (w : World) (hn : NV w u x) (hv : Vld w (Value.agg #[.int .i64 k, .int .i64 p, .int .i64 q, .bool g, .slice A n c, .slice C m d, .int .i64 r]) u) : UnG ⟨#[33]⟩ (Value.agg #[.int .i64 k, .int .i64 p, .int .i64 q, .bool g, .slice A n c, .slice C m d, .int .i64 r]) w := by
  cases hz : boolJ x
  · exact ⟨.bool true, 0, good_0 _, fun w1 hp => (un_not_f w1 (Lib.hid (hn.plus hp)) (Lib.hid (hv.plus hp)) (Lib.hid hz)).mono fun _ _ h => retF_bool h⟩
  · exact ⟨.bool false, 0, good_0 _, fun w1 hp => (un_not_t w1 (Lib.hid (hn.plus hp)) (Lib.hid (hv.plus hp)) (Lib.hid hz)).mono fun _ _ h => retF_bool h⟩
theorem ug_void {k p q : Int} {g : Bool} {A C : Option Addr} {n c m d : Nat} {r : Int} (w : World) : UnG ⟨#[118, 111, 105, 100]⟩ (Value.agg #[.int .i64 k, .int .i64 p, .int .i64 q, .bool g, .slice A n c, .slice C m d, .int .i64 r]) w := ⟨.undef, 0, good_0 _, fun w1 _ => (un_void w1).mono fun _ _ h => retF_nil h⟩
theorem ug_pos {k p q : Int} {g : Bool} {A C : Option Addr} {n c m d : Nat} {r : Int} {u : Value} {x : JV} (w : World) (hL : Lai w) (hn : NV w u x) (hv : Vld w (Value.agg #[.int .i64 k, .int .i64 p, .int .i64 q, .bool g, .slice A n c, .slice C m d, .int .i64 r]) u) : UnG ⟨#[43]⟩ (Value.agg #[.int .i64 k, .int .i64 p, .int .i64 q, .bool g, .slice A n c, .slice C m d, .int .i64 r]) w := by
  rcases cls hn.ok with ⟨z, rfl, _⟩ | ⟨a, b, hj, _, va⟩ | ⟨a, b, s, hj, _, s0, s1, s2⟩
  · exact ⟨.undef, 1, good_s (by decide) (by decide), fun w1 hp => un_pos w1 (FJ.stab _ _) (fun w2 h2 => (onumber_e w2 (Lib.hid (hL.plus (hp.trans h2))) (Lib.hid (hn.plus (hp.trans h2))) (Lib.hid (hv.plus (hp.trans h2))) (Lib.hid rfl) (by decide)).mono fun _ _ h => retF_nil h)⟩
  · exact ⟨.num a b, 0, good_0 _, fun w1 hp => un_pos w1 (FJ.stab _ _) (fun w2 h2 => (onumber_y w2 (Lib.hid (hL.plus (hp.trans h2))) (Lib.hid (hn.plus (hp.trans h2))) (Lib.hid (hv.plus (hp.trans h2))) (Lib.hid hj)).mono fun _ _ h => retF_num va h)⟩
  · exact ⟨.undef, s, good_s s1 s2, fun w1 hp => un_pos w1 (FJ.stab _ _) (fun w2 h2 => (onumber_e w2 (Lib.hid (hL.plus (hp.trans h2))) (Lib.hid (hn.plus (hp.trans h2))) (Lib.hid (hv.plus (hp.trans h2))) (Lib.hid hj) (by simp [s0])).mono fun _ _ h => retF_nil h)⟩
theorem ug_neg {k p q : Int} {g : Bool} {A C : Option Addr} {n c m d : Nat} {r : Int} {u : Value} {x : JV} (w : World) (hL : Lai w) (hn : NV w u x) (hv : Vld w (Value.agg #[.int .i64 k, .int .i64 p, .int .i64 q, .bool g, .slice A n c, .slice C m d, .int .i64 r]) u) : UnG ⟨#[45]⟩ (Value.agg #[.int .i64 k, .int .i64 p, .int .i64 q, .bool g, .slice A n c, .slice C m d, .int .i64 r]) w := by
  rcases cls hn.ok with ⟨z, rfl, hz⟩ | ⟨a, b, hj, nb, va⟩ | ⟨a, b, s, hj, nb, s0, s1, s2⟩
  · exact ⟨.big (-z), 0, good_0 _, fun w1 hp => un_neg w1 (FJ.stab _ _) (fun w2 h2 => (oneg_B w2 (Lib.hid (hn.plus (hp.trans h2))) (Lib.hid (hv.plus (hp.trans h2))) (Lib.hid ⟨Bg.Nm.mk' (by rw [Int.natAbs_neg]; exact hz), rfl⟩)).mono fun _ _ h => h.f)⟩
  · exact ⟨.num (negR a b).k (negR a b).n, 0, good_0 _, fun w1 hp => un_neg w1 (FJ.stab _ _) (fun w2 h2 => (oneg_N w2 (Lib.hid (hL.plus (hp.trans h2))) (Lib.hid (hn.plus (hp.trans h2))) (Lib.hid (hv.plus (hp.trans h2))) (Lib.hid hj) nb (Lib.hid (nm_eta _))).mono fun _ _ h => retF_num (neg_V _ _) h)⟩
  · exact ⟨.undef, s, good_s s1 s2, fun w1 hp => un_neg w1 (FJ.stab _ _) (fun w2 h2 => (oneg_S w2 (Lib.hid (hL.plus (hp.trans h2))) (Lib.hid (hn.plus (hp.trans h2))) (Lib.hid (hv.plus (hp.trans h2))) (Lib.hid hj) nb (by simp [s0])).mono fun _ _ h => retF_nil h)⟩
theorem ug_inv {k p q : Int} {g : Bool} {A C : Option Addr} {n c m d : Nat} {r : Int} {u : Value} {x : JV} (w : World) (hL : Lai w) (hn : NV w u x) (hv : Vld w (Value.agg #[.int .i64 k, .int .i64 p, .int .i64 q, .bool g, .slice A n c, .slice C m d, .int .i64 r]) u) : UnG ⟨#[126]⟩ (Value.agg #[.int .i64 k, .int .i64 p, .int .i64 q, .bool g, .slice A n c, .slice C m d, .int .i64 r]) w := by
  rcases cls hn.ok with ⟨z, rfl, hz⟩ | ⟨a, b, hj, nb, va⟩ | ⟨a, b, s, hj, nb, s0, s1, s2⟩
  · exact ⟨.undef, 3, good_s (by decide) (by decide), fun w1 hp => un_inv w1 (FJ.stab _ _) (fun w2 h2 => (oinv_B w2 (Lib.hid (hn.plus (hp.trans h2))) (Lib.hid (hv.plus (hp.trans h2)))).mono fun _ _ h => retF_nil h)⟩
  · exact ⟨.num (bitR 3 a b 0 (-1)).k (bitR 3 a b 0 (-1)).n, 0, good_0 _, fun w1 hp => un_inv w1 (FJ.stab _ _) (fun w2 h2 => (oinv_N w2 (Lib.hid (hL.plus (hp.trans h2))) (Lib.hid (hn.plus (hp.trans h2))) (Lib.hid (hv.plus (hp.trans h2))) (Lib.hid hj) nb (Lib.hid (nm_eta _))).mono fun _ _ h => retF_num (bit_V _ _ _ _ _) h)⟩
  · exact ⟨.undef, s, good_s s1 s2, fun w1 hp => un_inv w1 (FJ.stab _ _) (fun w2 h2 => (oinv_S w2 (Lib.hid (hL.plus (hp.trans h2))) (Lib.hid (hn.plus (hp.trans h2))) (Lib.hid (hv.plus (hp.trans h2))) (Lib.hid hj) nb (by simp [s0])).mono fun _ _ h => retF_nil h)⟩
theorem ba_eq {op : ByteArray} {l : List UInt8} (h : op.toList = l) : op = ⟨l.toArray⟩ := by
  rw [toList_data] at h
  subst h
  rfl
theorem ug_none {op : ByteArray} {k p q : Int} {g : Bool} {A C : Option Addr} {n c m d : Nat} {r : Int} (w : World) (b0 : (op.toList == [33]) = false) (b1 : (op.toList == [118, 111, 105, 100]) = false) (b2 : (op.toList == [43]) = false) (b3 : (op.toList == [45]) = false) (b4 : (op.toList == [126]) = false) : UnG op (Value.agg #[.int .i64 k, .int .i64 p, .int .i64 q, .bool g, .slice A n c, .slice C m d, .int .i64 r]) w := ⟨.undef, 3, good_s (by decide) (by decide), fun w1 _ => (un_none w1 b0 b1 b2 b3 b4).mono fun _ _ h => retF_nil h⟩
theorem ug_all (op : ByteArray) {k p q : Int} {g : Bool} {A C : Option Addr} {n c m d : Nat} {r : Int} {u : Value} {x : JV} (w : World) (hL : Lai w) (hn : NV w u x) (hv : Vld w (Value.agg #[.int .i64 k, .int .i64 p, .int .i64 q, .bool g, .slice A n c, .slice C m d, .int .i64 r]) u) : UnG op (Value.agg #[.int .i64 k, .int .i64 p, .int .i64 q, .bool g, .slice A n c, .slice C m d, .int .i64 r]) w := by
  cases b0 : (op.toList == [33])
  case true => rw [ba_eq (eq_of_beq b0)]; exact ug_not w hn hv
  cases b1 : (op.toList == [118, 111, 105, 100])
  case true => rw [ba_eq (eq_of_beq b1)]; exact ug_void w
  cases b2 : (op.toList == [43])
  case true => rw [ba_eq (eq_of_beq b2)]; exact ug_pos w hL hn hv
  cases b3 : (op.toList == [45])
  case true => rw [ba_eq (eq_of_beq b3)]; exact ug_neg w hL hn hv
  cases b4 : (op.toList == [126])
  case true => rw [ba_eq (eq_of_beq b4)]; exact ug_inv w hL hn hv
  exact ug_none w b0 b1 b2 b3 b4
end Go.Proofs.YtgljfgkkolfnbaaGreatDoor
