/- The chapter's examples. -/
import Derived.Test.YtakahpbondaidaaGreatDoorPB1
import Derived.Test.YtakahpbondaidaaGreatDoorPB2
import Derived.Test.YtakahpbondaidaaGreatDoorPA9
namespace Go.Proofs.YtakahpbondaidaaGreatDoor
open Go.RowKit

theorem rbig_c {A : Option Addr} {zs : List Nat} {n c : Nat} (w : World) (h : Ar .u32 4294967296 w A zs n c) : Calls Tryz.prog 80 #[.slice A n c] w fun e w' => e = .returned (Value.agg #[.int .i64 4, .int .i64 0, .int .i64 0, .bool false, .slice A n c, .slice none 0 0, .int .i64 0]) ∧ Ar .u32 4294967296 w' A zs n c ∧ Plus w w' := by
  have H := Lib.hid h
  clear h
  go_enter Tryz.func80, Tryz.ntmps80
  go_wp2_with fail
  go_returns
  exact ⟨rfl, H.out.plus (by repeat' (first | exact Plus.refl _ | refine Plus.alloc ?_ _ | refine Plus.plus ?_ _ | refine Plus.drew ?_ | refine Plus.drewN ?_ _)), (by repeat' (first | exact Plus.refl _ | refine Plus.alloc ?_ _ | refine Plus.plus ?_ _ | refine Plus.drew ?_ | refine Plus.drewN ?_ _))⟩
theorem lit32 {W : World} {g t : Nat} (hg : g = W.heap.size) : Ar .u32 4294967296 (W.alloc (.cells #[.int .u32 1] t)) (some ⟨g, 0, none⟩) [1] 1 1 := by
  subst hg
  refine ⟨fun _ => ⟨W.heap.size, 0, rfl, by rw [World.size_alloc]; omega, fun j hj => ?_⟩, rfl, by omega, by omega, fun x hx => by simp at hx; omega⟩
  have := news_at W [.int .u32 1] t j
  match j, hj with
  | 0, _ => exact World.cell?_alloc_at _ _ _ _ rfl
theorem hsame_eq {ka pa qa : Int} {ga : Bool} {Aa Ca : Option Addr} {na ca ma da : Nat} {ra : Int} {kb pb qb : Int} {gb : Bool} {Ab Cb : Option Addr} {nb cb mb db : Nat} {rb : Int} {x : JV} (w : World) (hx : NV w (Value.agg #[.int .i64 ka, .int .i64 pa, .int .i64 qa, .bool ga, .slice Aa na ca, .slice Ca ma da, .int .i64 ra]) x) (hy : NV w (Value.agg #[.int .i64 kb, .int .i64 pb, .int .i64 qb, .bool gb, .slice Ab nb cb, .slice Cb mb db, .int .i64 rb]) x) : Calls Tryz.prog 75 #[Value.agg #[.int .i64 ka, .int .i64 pa, .int .i64 qa, .bool ga, .slice Aa na ca, .slice Ca ma da, .int .i64 ra], Value.agg #[.int .i64 kb, .int .i64 pb, .int .i64 qb, .bool gb, .slice Ab nb cb, .slice Cb mb db, .int .i64 rb]] w fun e w' => e = .returned (.bool true) ∧ Plus w w' := by
  obtain ⟨k2, p2, q2, g2, A2, C2, xs2, us2, n2, c2, m2, d2, r2, e2, v2, _, j2, f2⟩ := hx.gen
  obtain ⟨k3, p3, q3, g3, A3, C3, xs3, us3, n3, c3, m3, d3, r3, e3, v3, _, j3, f3⟩ := hy.gen
  rw [e2, e3]
  refine hsame_v (z := true) (Lib.hid ?_) w v2 v3
  have o2 := v2.b.bd
  have o3 := v3.b.bd
  unfold jv at j2 j3
  rw [if_pos f2] at j2
  rw [if_pos f3] at j3
  rw [← j3] at j2
  clear j3 e2 e3 v2 v3 hx hy
  unfold sameV
  rcases mayV_cases f2 with ⟨hk, rfl, rfl, rfl, rfl, rfl, rfl⟩ | ⟨rfl, rfl, rfl, rfl, rfl, rfl, hr⟩ | ⟨rfl, hb, rfl, rfl, rfl, rfl⟩ | ⟨rfl, rfl, rfl, hb, rfl, rfl⟩ | ⟨rfl, rfl, rfl, rfl, rfl, hb, rfl⟩ | ⟨rfl, rfl, rfl, rfl, rfl, rfl, hr⟩ <;>
    rcases mayV_cases f3 with ⟨hk2, rfl, rfl, rfl, rfl, rfl, rfl⟩ | ⟨rfl, rfl, rfl, rfl, rfl, rfl, hr2⟩ | ⟨rfl, hb2, rfl, rfl, rfl, rfl⟩ | ⟨rfl, rfl, rfl, hb2, rfl, rfl⟩ | ⟨rfl, rfl, rfl, rfl, rfl, hb2, rfl⟩ | ⟨rfl, rfl, rfl, rfl, rfl, rfl, hr2⟩
  all_goals first
    | (rcases hk with rfl | rfl <;> rcases hk2 with rfl | rfl <;> simp_all; done)
    | (rcases hk with rfl | rfl <;> simp at j2; done)
    | (rcases hk2 with rfl | rfl <;> simp at j2; done)
    | (rcases hr with rfl | rfl <;> rcases hr2 with rfl | rfl <;> simp at j2 ⊢; done)
    | (simp at j2; done)
    | (simp at j2; obtain ⟨rfl, rfl⟩ := (big_inj o2 o3 hb hb2).1 j2; simp; done)
    | (simp at j2; simp [j2]; done)
    | (simp at j2; obtain ⟨rfl, rfl⟩ := j2; simp; done)
theorem isV_w {z : Int} (h1 : -9007199254740991 ≤ z) (h2 : z ≤ 9007199254740991) : IsV 0 z := .inl ⟨rfl, h1, h2⟩
theorem f_cat {D : Option Addr} {k : Nat} (w : World) (hL : Lai w) (h : Ar .u16 65536 w D [97] 1 k) : Calls Tryz.prog 77 #[.string ⟨#[43]⟩, Value.agg #[.int .i64 5, .int .i64 0, .int .i64 0, .bool false, .slice none 0 0, .slice D 1 k, .int .i64 0], Value.agg #[.int .i64 3, .int .i64 0, .int .i64 1, .bool false, .slice none 0 0, .slice none 0 0, .int .i64 0]] w (RetF (FJ (.text ([97] ++ [49])) 0) w) :=
  bj_txt_y (n := 2) w (Lib.hid hL) (Lib.hid (nv_text h (by decide))) (Lib.hid ⟨rfl, rfl⟩) (Lib.hid (nv_num w (isV_w (by decide) (by decide)))) (Lib.hid ⟨by kernel_rfl, rfl⟩) rfl (by decide) (by decide) (Lib.hid rfl) (by decide) (by decide)
theorem f_mix {A : Option Addr} {c : Nat} (w : World) (hL : Lai w) (h : Ar .u32 4294967296 w A [1] 1 c) : Calls Tryz.prog 77 #[.string ⟨#[43]⟩, Value.agg #[.int .i64 4, .int .i64 0, .int .i64 0, .bool false, .slice A 1 c, .slice none 0 0, .int .i64 0], Value.agg #[.int .i64 3, .int .i64 0, .int .i64 1, .bool false, .slice none 0 0, .slice none 0 0, .int .i64 0]] w (fun e w' => e = .returned (.tuple #[Value.agg #[.int .i64 0, .int .i64 0, .int .i64 0, .bool false, .slice none 0 0, .slice none 0 0, .int .i64 0], .int .i64 1]) ∧ Plus w w') :=
  (bj_add_BN w (Lib.hid hL) (Lib.hid (nv_big h (by decide))) (Lib.hid (nv_num w (isV_w (by decide) (by decide)))) (Lib.hid rfl) (fun _ e => by cases e) rfl).mono (fun _ _ h => retF_to h)
theorem f_div (w : World) (hL : Lai w) : Calls Tryz.prog 77 #[.string ⟨#[47]⟩, Value.agg #[.int .i64 3, .int .i64 0, .int .i64 1, .bool false, .slice none 0 0, .slice none 0 0, .int .i64 0], Value.agg #[.int .i64 3, .int .i64 0, .int .i64 2, .bool false, .slice none 0 0, .slice none 0 0, .int .i64 0]] w (fun e w' => e = .returned (.tuple #[Value.agg #[.int .i64 0, .int .i64 0, .int .i64 0, .bool false, .slice none 0 0, .slice none 0 0, .int .i64 0], .int .i64 3]) ∧ Plus w w') :=
  (bj_div_NN w (Lib.hid hL) (Lib.hid (nv_num w (isV_w (by decide) (by decide)))) (Lib.hid rfl) (fun _ e => by cases e) (Lib.hid (nv_num w (isV_w (by decide) (by decide)))) (Lib.hid rfl) (fun _ e => by cases e) (FV.stab _ _) (fun w1 _ => (nums_div_n w1 (Lib.hid rfl)).mono (fun _ _ h => retF_of h))).mono (fun _ _ h => retF_to h)
theorem nv_nb0 (w : World) : NV w (Value.agg #[.int .i64 4, .int .i64 0, .int .i64 0, .bool false, .slice none 0 0, .slice none 0 0, .int .i64 0]) (.big 0) := ⟨false, none, none, [], 0, 0, 0, rfl, by omega, rfl, rfl, Bg.arg_nil⟩
theorem nm0 : Bg.Nm 0 false [] := ⟨rfl, by simp [Bg.dig_zero], by rw [Bg.B_eq]; decide⟩
theorem divN0 (z : Int) : Bg.DivN z 0 0 4 false [] := ⟨nm0, rfl, rfl⟩
theorem f_dbz {A : Option Addr} {c : Nat} (w : World) (hL : Lai w) (h : Ar .u32 4294967296 w A [1] 1 c) : Calls Tryz.prog 77 #[.string ⟨#[47]⟩, Value.agg #[.int .i64 4, .int .i64 0, .int .i64 0, .bool false, .slice A 1 c, .slice none 0 0, .int .i64 0], Value.agg #[.int .i64 4, .int .i64 0, .int .i64 0, .bool false, .slice none 0 0, .slice none 0 0, .int .i64 0]] w (fun e w' => e = .returned (.tuple #[Value.agg #[.int .i64 0, .int .i64 0, .int .i64 0, .bool false, .slice none 0 0, .slice none 0 0, .int .i64 0], .int .i64 2]) ∧ Plus w w') :=
  (bj_div_BB w (Lib.hid hL) (Lib.hid (nv_big h (by decide))) (Lib.hid (nv_nb0 w)) (FV.stab _ _) (fun _ _ _ _ _ _ _ _ _ _ w1 _ h1 h2 => (bigs_div_n w1 (Lib.hid h1) (Lib.hid h2) (Lib.hid (divN0 _))).mono (fun _ _ h => retF_of h))).mono (fun _ _ h => retF_to h)
theorem f_lt {A : Option Addr} {c : Nat} (w : World) (hL : Lai w) (h : Ar .u32 4294967296 w A [1] 1 c) : Calls Tryz.prog 77 #[.string ⟨#[60]⟩, Value.agg #[.int .i64 4, .int .i64 0, .int .i64 0, .bool false, .slice A 1 c, .slice none 0 0, .int .i64 0], Value.agg #[.int .i64 3, .int .i64 0, .int .i64 2, .bool false, .slice none 0 0, .slice none 0 0, .int .i64 0]] w (fun e w' => e = .returned (.tuple #[Value.agg #[.int .i64 2, .int .i64 0, .int .i64 0, .bool false, .slice none 0 0, .slice none 0 0, .int .i64 1], .int .i64 0]) ∧ Plus w w') := by
  have v2 : IsV 0 2 := isV_w (by decide) (by decide)
  have q2 : -9007199254740991 ≤ (2 : Int) ∧ (2 : Int) ≤ 9007199254740991 := ⟨by decide, by decide⟩
  have q := bj_lt w (Lib.hid (nv_big h (by decide))) (Lib.hid (nv_num w v2)) (cmpn_BN w (Lib.hid hL) (Lib.hid (nv_big h (by decide))) (Lib.hid (nv_num w v2)) (Lib.hid rfl) (fun _ e => by cases e) rfl rfl rfl (Lib.hid q2))
  have e : decide (cmpBN (1 : Nat) 0 2 < 0) = true := by decide
  rw [e] at q
  exact q.mono fun _ _ h => retF_to h
theorem f_neg (w : World) (hL : Lai w) : Calls Tryz.prog 33 #[.string ⟨#[45]⟩, Value.agg #[.int .i64 3, .int .i64 0, .int .i64 0, .bool false, .slice none 0 0, .slice none 0 0, .int .i64 0]] w (fun e w' => e = .returned (.tuple #[Value.agg #[.int .i64 3, .int .i64 1, .int .i64 0, .bool false, .slice none 0 0, .slice none 0 0, .int .i64 0], .int .i64 0]) ∧ Plus w w') :=
  (un_neg w (FV.stab _ _) (fun w1 h1 => (oneg_N w1 (Lib.hid (hL.plus h1)) (Lib.hid (nv_num w1 (isV_w (by decide) (by decide)))) (Lib.hid (nv_num w1 (isV_w (by decide) (by decide))).vld) (Lib.hid rfl) (fun _ e => by cases e) (Lib.hid rfl)).mono (fun _ _ h => retF_of h))).mono (fun _ _ h => retF_to h)
end Go.Proofs.YtakahpbondaidaaGreatDoor
namespace Go.Proofs.YtakahpbondaidaaGreatDoor
open Go.RowKit

theorem add_V (a b c d : Int) : IsV (addR a b c d).k (addR a b c d).n := by
  have h1 := isV_v a b
  have h2 := isV_v c d
  unfold addR
  generalize vk a b = p at h1 ⊢
  generalize vn a b = q at h1 ⊢
  generalize vk c d = r at h2 ⊢
  generalize vn c d = s at h2 ⊢
  unfold addS
  repeat' split
  all_goals first
    | exact ofS_V _
    | exact .inl ⟨rfl, by decide, by decide⟩
    | exact .inr (.inl ⟨rfl, rfl⟩)
    | exact .inr (.inr (.inl ⟨rfl, rfl⟩))
    | exact h1
    | exact h2
    | (rcases h1 with ⟨rfl, _, _⟩ | ⟨rfl, rfl⟩ | ⟨rfl, rfl⟩ | ⟨rfl, rfl⟩ | ⟨rfl, rfl⟩ <;> rcases h2 with ⟨rfl, _, _⟩ | ⟨rfl, rfl⟩ | ⟨rfl, rfl⟩ | ⟨rfl, rfl⟩ | ⟨rfl, rfl⟩ <;> first | exact ofS_V _ | (unfold IsV; simp_all; done) | (unfold IsV; simp_all; omega))
/-- A number, if it is told. -/
def jA (r : Ans) : JV := if r.ok = true then .num r.k r.n else .undef
def tA (r : Ans) : Int := if r.ok = true then 0 else 3
def jB (z : Int) : JV := if z.natAbs < Bg.B ^ 8 then .big z else .undef
def tB (z : Int) : Int := if z.natAbs < Bg.B ^ 8 then 0 else 3
theorem retF_num {x y : Int} {w : World} {e : Ending} {w' : World} (v : IsV x y) (h : e = .returned (.tuple #[Value.agg #[.int .i64 3, .int .i64 x, .int .i64 y, .bool false, .slice none 0 0, .slice none 0 0, .int .i64 0], .int .i64 0]) ∧ Plus w w') : RetF (FJ (.num x y) 0) w e w' :=
  ⟨3, x, y, false, none, none, 0, 0, 0, 0, 0, 0, h.1, ⟨nv_num _ v, rfl⟩, h.2⟩
theorem nv_nil (w : World) : NV w (Value.agg #[.int .i64 0, .int .i64 0, .int .i64 0, .bool false, .slice none 0 0, .slice none 0 0, .int .i64 0]) .undef := ⟨none, none, 0, 0, rfl, by omega, by omega⟩
theorem retF_nil {s : Int} {w : World} {e : Ending} {w' : World} (h : e = .returned (.tuple #[Value.agg #[.int .i64 0, .int .i64 0, .int .i64 0, .bool false, .slice none 0 0, .slice none 0 0, .int .i64 0], .int .i64 s]) ∧ Plus w w') : RetF (FJ .undef s) w e w' :=
  ⟨0, 0, 0, false, none, none, 0, 0, 0, 0, 0, s, h.1, ⟨nv_nil _, rfl⟩, h.2⟩
theorem nums_add_J (a b a2 b2 : Int) (hv : IsV (addR a b a2 b2).k (addR a b a2 b2).n) (w : World) : Calls Tryz.prog 92 #[.string ⟨#[43]⟩, .agg #[.int .i64 a, .int .i64 b], .agg #[.int .i64 a2, .int .i64 b2]] w (RetF (FJ (jA (addR a b a2 b2)) (tA (addR a b a2 b2))) w) := by
  obtain ⟨x, y, o, h⟩ : ∃ x y o, addR a b a2 b2 = ⟨x, y, o⟩ := ⟨_, _, _, rfl⟩
  rw [h] at hv ⊢
  cases o
  · exact (nums_add_n w (Lib.hid h)).mono fun _ _ h => retF_nil h
  · exact (nums_add_y w (Lib.hid h)).mono fun _ _ h => retF_num hv h
theorem bigs_add_J {ga gb : Bool} {Aa Ab : Option Addr} {xsa xsb : List Nat} {na ca nb cb : Nat} {za zb : Int} (w : World) (h1 : BgV ga Aa xsa na ca za w) (h2 : BgV gb Ab xsb nb cb zb w) : Calls Tryz.prog 91 #[.string ⟨#[43]⟩, .agg #[.bool ga, .slice Aa na ca], .agg #[.bool gb, .slice Ab nb cb]] w (RetF (FJ (jB (za + zb)) (tB (za + zb))) w) := by
  unfold jB tB
  by_cases h : (za + zb).natAbs < Bg.B ^ 8
  · rw [if_pos h, if_pos h]
    exact (bigs_add_y w (Lib.hid h1) (Lib.hid h2) (Lib.hid ⟨Bg.Nm.mk' h, by simp [h], by rw [if_pos h]⟩)).mono fun _ _ h => h.f
  · rw [if_neg h, if_neg h]
    exact (bigs_add_n w (Lib.hid h1) (Lib.hid h2) (Lib.hid ⟨nm0, by simp [h], by rw [if_neg h]⟩)).mono fun _ _ h => retF_nil h
end Go.Proofs.YtakahpbondaidaaGreatDoor
namespace Go.Proofs.YtakahpbondaidaaGreatDoor
open Go.RowKit

theorem texts_v {g h : Nat} (w : World) (h1 : SR w g opsL) (h2 : SR w h opsL) : Calls Tryz.prog 81 #[.slice (some ⟨g, 0, none⟩) 19 19, .slice (some ⟨h, 0, none⟩) 19 19] w fun e w' => e = .returned (.bool true) ∧ Plus w w' :=
  texts_c g h opsL 19 rfl (by decide) w h1 h2
/-- The boxes that the last region reads. -/
def FC (b1 b9 b11 : Nat) (k9 p9 q9 : Int) (g9 : Bool) (A9 C9 : Option Addr) (n9 c9 m9 d9 : Nat) (r9 : Int) (W : World) : Prop := W.cell? ⟨b1, 0, none⟩ = some (.int .i64 k9) ∧ W.cell? ⟨b1, 1, none⟩ = some (.int .i64 p9) ∧ W.cell? ⟨b1, 2, none⟩ = some (.int .i64 q9) ∧ W.cell? ⟨b1, 3, none⟩ = some (.bool g9) ∧ W.cell? ⟨b1, 4, none⟩ = some (.slice A9 n9 c9) ∧ W.cell? ⟨b1, 5, none⟩ = some (.slice C9 m9 d9) ∧ W.cell? ⟨b1, 6, none⟩ = some (.int .i64 r9) ∧ W.cell? ⟨b9, 0, none⟩ = some (.int .i64 2) ∧ W.cell? ⟨b9, 6, none⟩ = some (.int .i64 1) ∧ W.cell? ⟨b11, 1, none⟩ = some (.int .i64 1)
theorem FC.plus {b1 b9 b11 : Nat} {k9 p9 q9 : Int} {g9 : Bool} {A9 C9 : Option Addr} {n9 c9 m9 d9 : Nat} {r9 : Int} {W W' : World} (h : FC b1 b9 b11 k9 p9 q9 g9 A9 C9 n9 c9 m9 d9 r9 W) (hp : Plus W W') : FC b1 b9 b11 k9 p9 q9 g9 A9 C9 n9 c9 m9 d9 r9 W' := by
  obtain ⟨h0, h1, h2, h3, h4, h5, h6, h7, h8, h9⟩ := h
  exact ⟨cell_plus h0 hp, cell_plus h1 hp, cell_plus h2 hp, cell_plus h3 hp, cell_plus h4 hp, cell_plus h5 hp, cell_plus h6 hp, cell_plus h7 hp, cell_plus h8 hp, cell_plus h9 hp⟩
theorem FC.lt {b1 b9 b11 : Nat} {k9 p9 q9 : Int} {g9 : Bool} {A9 C9 : Option Addr} {n9 c9 m9 d9 : Nat} {r9 : Int} {W : World} (h : FC b1 b9 b11 k9 p9 q9 g9 A9 C9 n9 c9 m9 d9 r9 W) : b1 < W.heap.size ∧ b9 < W.heap.size ∧ b11 < W.heap.size := by
  obtain ⟨h0, h1, h2, h3, h4, h5, h6, h7, h8, h9⟩ := h
  exact ⟨World.block_lt_of_cell? _ _ h0, World.block_lt_of_cell? _ _ h7, World.block_lt_of_cell? _ _ h9⟩
set_option maxRecDepth 100000 in
set_option maxHeartbeats 4000000 in
theorem first_h (w : World) (hL : Hid (Lai w)) (s1 : Hid (nats ⟨#[97]⟩ = [97] ∧ 1 = ([97] : List Nat).length)) (s2 : Hid (nats ⟨#[97, 49]⟩ = [97, 49] ∧ 2 = ([97, 49] : List Nat).length)) : Calls Tryz.prog 31 #[] w fun e w' => e = .returned (.bool true) ∧ Plus w w' := by
  go_enter Tryz.func31, Tryz.ntmps31
  go_upto_region 6 with (first | (go_at_call_of 78 (Value.string ⟨#[97]⟩); (with_reducible refine (str_v s1 _ (by decide)).mono ?_); rintro e w1 ⟨D1, kd1, rfl, hD1, ⟨xa1, rfl⟩⟩; have HD1 := Lib.hid hD1; clear hD1) | (go_at_call 79; (with_reducible refine (whole_k _ _).mono ?_); rintro e w1 ⟨rfl, ⟨xb1, rfl⟩⟩) | (go_at_call_of 80 (Value.slice none 0 0); (with_reducible refine (rbig_c _ (Ar.nil _ _ _ _ (by omega) _)).mono ?_); rintro e w1 ⟨rfl, _, ⟨xc0, rfl⟩⟩) | (go_at_call 80; (with_reducible refine (rbig_c _ (lit32 (by first | rfl | (simp [size_plus, World.size_alloc]; done) | (simp [size_plus, World.size_alloc]; omega)))).mono ?_); rintro e w1 ⟨rfl, hA1, ⟨xc1, rfl⟩⟩; have HA1 := Lib.hid hA1; clear hA1) | (go_at_call 77; (with_reducible refine (f_cat _ (hL.out.plus (by repeat' (first | exact Plus.refl _ | refine Plus.alloc ?_ _ | refine Plus.plus ?_ _ | refine Plus.drew ?_ | refine Plus.drewN ?_ _))) (HD1.out.plus (by repeat' (first | exact Plus.refl _ | refine Plus.alloc ?_ _ | refine Plus.plus ?_ _ | refine Plus.drew ?_ | refine Plus.drewN ?_ _)))).mono ?_); rintro e w1 ⟨k9, p9, q9, g9, A9, C9, n9, c9, m9, d9, r9, s9, rfl, ⟨hN, rfl⟩, ⟨xd1, rfl⟩⟩; have HN := Lib.hid hN; clear hN) | (go_at_call 77; (with_reducible refine (f_mix _ (hL.out.plus (by repeat' (first | exact Plus.refl _ | refine Plus.alloc ?_ _ | refine Plus.plus ?_ _ | refine Plus.drew ?_ | refine Plus.drewN ?_ _))) (HA1.out.plus (by repeat' (first | exact Plus.refl _ | refine Plus.alloc ?_ _ | refine Plus.plus ?_ _ | refine Plus.drew ?_ | refine Plus.drewN ?_ _)))).mono ?_); rintro e w1 ⟨rfl, ⟨xd2, rfl⟩⟩) | (go_at_call 77; (with_reducible refine (f_div _ (hL.out.plus (by repeat' (first | exact Plus.refl _ | refine Plus.alloc ?_ _ | refine Plus.plus ?_ _ | refine Plus.drew ?_ | refine Plus.drewN ?_ _)))).mono ?_); rintro e w1 ⟨rfl, ⟨xd3, rfl⟩⟩) | (go_at_call 77; (with_reducible refine (f_dbz _ (hL.out.plus (by repeat' (first | exact Plus.refl _ | refine Plus.alloc ?_ _ | refine Plus.plus ?_ _ | refine Plus.drew ?_ | refine Plus.drewN ?_ _))) (HA1.out.plus (by repeat' (first | exact Plus.refl _ | refine Plus.alloc ?_ _ | refine Plus.plus ?_ _ | refine Plus.drew ?_ | refine Plus.drewN ?_ _)))).mono ?_); rintro e w1 ⟨rfl, ⟨xd4, rfl⟩⟩) | (go_at_call 77; (with_reducible refine (f_lt _ (hL.out.plus (by repeat' (first | exact Plus.refl _ | refine Plus.alloc ?_ _ | refine Plus.plus ?_ _ | refine Plus.drew ?_ | refine Plus.drewN ?_ _))) (HA1.out.plus (by repeat' (first | exact Plus.refl _ | refine Plus.alloc ?_ _ | refine Plus.plus ?_ _ | refine Plus.drew ?_ | refine Plus.drewN ?_ _)))).mono ?_); rintro e w1 ⟨rfl, ⟨xd5, rfl⟩⟩) | (go_at_call 33; (with_reducible refine (f_neg _ (hL.out.plus (by repeat' (first | exact Plus.refl _ | refine Plus.alloc ?_ _ | refine Plus.plus ?_ _ | refine Plus.drew ?_ | refine Plus.drewN ?_ _)))).mono ?_); rintro e w1 ⟨rfl, ⟨xd6, rfl⟩⟩))
  go_cut [1, 9, 11, 12] (fun s1 s9 s11 s12 wx => ∃ (b1 b9 b11 : Nat) (k9 p9 q9 : Int) (g9 : Bool) (A9 C9 : Option Addr) (n9 c9 m9 d9 : Nat) (r9 : Int), s1 = .pointer (some ⟨b1, 0, none⟩) ∧ s9 = .pointer (some ⟨b9, 0, none⟩) ∧ s11 = .pointer (some ⟨b11, 0, none⟩) ∧ s12 = .int .i64 0 ∧ FC b1 b9 b11 k9 p9 q9 g9 A9 C9 n9 c9 m9 d9 r9 wx ∧ NV wx (Value.agg #[.int .i64 k9, .int .i64 p9, .int .i64 q9, .bool g9, .slice A9 n9 c9, .slice C9 m9 d9, .int .i64 r9]) (.text ([97] ++ [49])) ∧ Plus w wx)
  case first =>
    go_wp2_with (first | (go_at_call_of 78 (Value.string ⟨#[97]⟩); (with_reducible refine (str_v s1 _ (by decide)).mono ?_); rintro e w1 ⟨D1, kd1, rfl, hD1, ⟨xa1, rfl⟩⟩; have HD1 := Lib.hid hD1; clear hD1) | (go_at_call 79; (with_reducible refine (whole_k _ _).mono ?_); rintro e w1 ⟨rfl, ⟨xb1, rfl⟩⟩) | (go_at_call_of 80 (Value.slice none 0 0); (with_reducible refine (rbig_c _ (Ar.nil _ _ _ _ (by omega) _)).mono ?_); rintro e w1 ⟨rfl, _, ⟨xc0, rfl⟩⟩) | (go_at_call 80; (with_reducible refine (rbig_c _ (lit32 (by first | rfl | (simp [size_plus, World.size_alloc]; done) | (simp [size_plus, World.size_alloc]; omega)))).mono ?_); rintro e w1 ⟨rfl, hA1, ⟨xc1, rfl⟩⟩; have HA1 := Lib.hid hA1; clear hA1) | (go_at_call 77; (with_reducible refine (f_cat _ (hL.out.plus (by repeat' (first | exact Plus.refl _ | refine Plus.alloc ?_ _ | refine Plus.plus ?_ _ | refine Plus.drew ?_ | refine Plus.drewN ?_ _))) (HD1.out.plus (by repeat' (first | exact Plus.refl _ | refine Plus.alloc ?_ _ | refine Plus.plus ?_ _ | refine Plus.drew ?_ | refine Plus.drewN ?_ _)))).mono ?_); rintro e w1 ⟨k9, p9, q9, g9, A9, C9, n9, c9, m9, d9, r9, s9, rfl, ⟨hN, rfl⟩, ⟨xd1, rfl⟩⟩; have HN := Lib.hid hN; clear hN) | (go_at_call 77; (with_reducible refine (f_mix _ (hL.out.plus (by repeat' (first | exact Plus.refl _ | refine Plus.alloc ?_ _ | refine Plus.plus ?_ _ | refine Plus.drew ?_ | refine Plus.drewN ?_ _))) (HA1.out.plus (by repeat' (first | exact Plus.refl _ | refine Plus.alloc ?_ _ | refine Plus.plus ?_ _ | refine Plus.drew ?_ | refine Plus.drewN ?_ _)))).mono ?_); rintro e w1 ⟨rfl, ⟨xd2, rfl⟩⟩) | (go_at_call 77; (with_reducible refine (f_div _ (hL.out.plus (by repeat' (first | exact Plus.refl _ | refine Plus.alloc ?_ _ | refine Plus.plus ?_ _ | refine Plus.drew ?_ | refine Plus.drewN ?_ _)))).mono ?_); rintro e w1 ⟨rfl, ⟨xd3, rfl⟩⟩) | (go_at_call 77; (with_reducible refine (f_dbz _ (hL.out.plus (by repeat' (first | exact Plus.refl _ | refine Plus.alloc ?_ _ | refine Plus.plus ?_ _ | refine Plus.drew ?_ | refine Plus.drewN ?_ _))) (HA1.out.plus (by repeat' (first | exact Plus.refl _ | refine Plus.alloc ?_ _ | refine Plus.plus ?_ _ | refine Plus.drew ?_ | refine Plus.drewN ?_ _)))).mono ?_); rintro e w1 ⟨rfl, ⟨xd4, rfl⟩⟩) | (go_at_call 77; (with_reducible refine (f_lt _ (hL.out.plus (by repeat' (first | exact Plus.refl _ | refine Plus.alloc ?_ _ | refine Plus.plus ?_ _ | refine Plus.drew ?_ | refine Plus.drewN ?_ _))) (HA1.out.plus (by repeat' (first | exact Plus.refl _ | refine Plus.alloc ?_ _ | refine Plus.plus ?_ _ | refine Plus.drew ?_ | refine Plus.drewN ?_ _)))).mono ?_); rintro e w1 ⟨rfl, ⟨xd5, rfl⟩⟩) | (go_at_call 33; (with_reducible refine (f_neg _ (hL.out.plus (by repeat' (first | exact Plus.refl _ | refine Plus.alloc ?_ _ | refine Plus.plus ?_ _ | refine Plus.drew ?_ | refine Plus.drewN ?_ _)))).mono ?_); rintro e w1 ⟨rfl, ⟨xd6, rfl⟩⟩))
    go_meet
    exact ⟨_, _, _, k9, p9, q9, g9, A9, C9, n9, c9, m9, d9, r9, rfl, rfl, rfl, rfl, ⟨by simp [go_sem], by simp [go_sem], by simp [go_sem], by simp [go_sem], by simp [go_sem], by simp [go_sem], by simp [go_sem], by simp [go_sem], by simp [go_sem], by simp [go_sem]⟩, HN.out.plus (by repeat' (first | exact Plus.refl _ | refine Plus.alloc ?_ _ | refine Plus.plus ?_ _ | refine Plus.drew ?_ | refine Plus.drewN ?_ _)), (by repeat' (first | exact Plus.refl _ | refine Plus.alloc ?_ _ | refine Plus.plus ?_ _ | refine Plus.drew ?_ | refine Plus.drewN ?_ _))⟩
  case rest =>
    obtain ⟨b1, b9, b11, k9, p9, q9, g9, A9, C9, n9, c9, m9, d9, r9, rfl, rfl, rfl, rfl, hFC, hNc, hPc⟩ := hcut
    have HN := Lib.hid hNc
    have HP := Lib.hid hPc
    clear hNc hPc
    have HFC := Lib.hid hFC
    obtain ⟨h0, h1, h2, h3, h4, h5, h6, h7, h8, h9⟩ := hFC
    go_wp2_with fail
    skip
    go_region_held3 (fun w' => w'.cell? ⟨b1, 0, none⟩ = some (.int .i64 k9) ∧ w'.cell? ⟨b1, 1, none⟩ = some (.int .i64 p9) ∧ w'.cell? ⟨b1, 2, none⟩ = some (.int .i64 q9) ∧ w'.cell? ⟨b1, 3, none⟩ = some (.bool g9) ∧ w'.cell? ⟨b1, 4, none⟩ = some (.slice A9 n9 c9) ∧ w'.cell? ⟨b1, 5, none⟩ = some (.slice C9 m9 d9) ∧ w'.cell? ⟨b1, 6, none⟩ = some (.int .i64 r9) ∧ w'.cell? ⟨b9, 0, none⟩ = some (.int .i64 2) ∧ w'.cell? ⟨b9, 6, none⟩ = some (.int .i64 1) ∧ w'.cell? ⟨b11, 1, none⟩ = some (.int .i64 1)) (exact FC.plus HFC.out (by repeat' (first | exact Plus.refl _ | refine Plus.alloc ?_ _ | refine Plus.plus ?_ _ | refine Plus.drew ?_ | refine Plus.drewN ?_ _))) (first | (go_at_call_of 78 (Value.string ⟨#[97, 49]⟩); (with_reducible refine (str_v s2 _ (by decide)).mono ?_); rintro e w1 ⟨D2, kd2, rfl, hD2, ⟨xa2, rfl⟩⟩; have HD2 := Lib.hid hD2; clear hD2) | (go_at_call 75; (with_reducible refine (hsame_eq (x := .text ([97] ++ [49])) _ (HN.out.plus (by repeat' (first | exact Plus.refl _ | refine Plus.alloc ?_ _ | refine Plus.plus ?_ _ | refine Plus.drew ?_ | refine Plus.drewN ?_ _))) (nv_text (ar_offp HD2.out (by repeat (first | (refine Offp.of ?_; (repeat' (first | exact Offs.refl _ | refine Offs.plus ?_ _ | refine Offs.alloc ?_ _ | exact Offs.allocN (Offs.refl _) (nuV _ _ _ _ _ _ _ _ _ _ _ _) | refine Offs.allocN ?_ (nuV _ _ _ _ _ _ _ _ _ _ _ _) | refine Offs.allocN ?_ (nuB _ _ _ _ _) | refine Offs.allocN ?_ (nuN _ _ _) | refine Offs.drew ?_ | refine Offs.drewL ?_ | refine Offs.drewR ?_)); done) | refine Offp.plusR ?_ _ | refine Offp.allocR ?_ _ | refine Offp.drewR ?_))) (by decide))).mono ?_); rintro e w1 ⟨rfl, ⟨xe1, rfl⟩⟩) | (go_at_call 82; (with_reducible refine (ops_c _).mono ?_); rintro e w1 ⟨go1, rfl, hO1, ⟨xe2, rfl⟩⟩; have HO1 := Lib.hid hO1; clear hO1) | (go_at_call 83; (with_reducible refine (rops_c _).mono ?_); rintro e w1 ⟨go2, rfl, hO2, ⟨xe3, rfl⟩⟩; have HO2 := Lib.hid hO2; clear hO2) | (go_at_call 81; (with_reducible refine (texts_v _ (by first | exact HO1.out.plus (by repeat' (first | exact Plus.refl _ | refine Plus.alloc ?_ _ | refine Plus.plus ?_ _ | refine Plus.drew ?_ | refine Plus.drewN ?_ _)) | (have q := HO1.out; (try simp only [plus_drew] at q ⊢); first | exact q | exact q.plus (by repeat' (first | exact Plus.refl _ | refine Plus.alloc ?_ _ | refine Plus.plus ?_ _ | refine Plus.drew ?_ | refine Plus.drewN ?_ _)))) (by first | exact HO2.out.plus (by repeat' (first | exact Plus.refl _ | refine Plus.alloc ?_ _ | refine Plus.plus ?_ _ | refine Plus.drew ?_ | refine Plus.drewN ?_ _)) | (have q := HO2.out; (try simp only [plus_drew] at q ⊢); first | exact q | exact q.plus (by repeat' (first | exact Plus.refl _ | refine Plus.alloc ?_ _ | refine Plus.plus ?_ _ | refine Plus.drew ?_ | refine Plus.drewN ?_ _))))).mono ?_); rintro e w1 ⟨rfl, ⟨xe4, rfl⟩⟩))
    all_goals
      go_wp2_with fail
      go_returns
      exact ⟨rfl, HP.out.trans (by repeat' (first | exact Plus.refl _ | refine Plus.alloc ?_ _ | refine Plus.plus ?_ _ | refine Plus.drew ?_ | refine Plus.drewN ?_ _))⟩
theorem first_c (w : World) (hL : Lai w) : Calls Tryz.prog 31 #[] w fun e w' => e = .returned (.bool true) ∧ Plus w w' := first_h w (Lib.hid hL) (Lib.hid (by decide)) (Lib.hid (by decide))
end Go.Proofs.YtakahpbondaidaaGreatDoor
