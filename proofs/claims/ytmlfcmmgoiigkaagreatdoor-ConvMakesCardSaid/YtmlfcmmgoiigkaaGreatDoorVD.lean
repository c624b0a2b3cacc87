/- The chapter's examples. Contract: Few; what strict equality keeps. -/
import Derived.Test.YtmlfcmmgoiigkaaGreatDoorV12
namespace Go.Proofs.YtmlfcmmgoiigkaaGreatDoor
open Go.RowKit

theorem nv_text {D : Option Addr} {us : List Nat} {m k : Nat} {w : World} (h : Ar .u16 65536 w D us m k) (hl : us.length ≤ 4096) : NV w (Value.agg #[.int .i64 5, .int .i64 0, .int .i64 0, .bool false, .slice none 0 0, .slice D m k, .int .i64 0]) (.text us) := ⟨none, D, 0, m, k, rfl, by omega, hl, h⟩
theorem nv_big {D : Option Addr} {z k : Nat} {w : World} (h : Ar .u32 4294967296 w D [z] 1 k) (h0 : z ≠ 0) : NV w (Value.agg #[.int .i64 4, .int .i64 0, .int .i64 0, .bool false, .slice D 1 k, .slice none 0 0, .int .i64 0]) (.big z) :=
  ⟨false, D, none, [z], 1, k, 0, rfl, by omega, by simp [Bg.mayL, Bg.lim, h0], by simp [Bg.bigI, Bg.mayL, Bg.lim, h0, Bg.sgn, Bg.val], arg_ar h (by omega)⟩
theorem nv_tru {w : World} : NV w (Value.agg #[.int .i64 2, .int .i64 0, .int .i64 0, .bool false, .slice none 0 0, .slice none 0 0, .int .i64 1]) (.bool true) := ⟨none, none, 0, 0, rfl, by omega, by omega⟩
theorem nv_null {w : World} : NV w (Value.agg #[.int .i64 1, .int .i64 0, .int .i64 0, .bool false, .slice none 0 0, .slice none 0 0, .int .i64 0]) .null := ⟨none, none, 0, 0, rfl, by omega, by omega⟩
theorem number_txt {D : Option Addr} {us : List Nat} {m k : Nat} {a b s : Int} (hu : Hid (numJ (.text us) = ⟨a, b, s⟩)) (hl : us.length ≤ 4096) (w : World) (hL : Lai w) (h : Ar .u16 65536 w D us m k) :
    Calls Tryz.prog 14 #[Value.agg #[.int .i64 5, .int .i64 0, .int .i64 0, .bool false, .slice none 0 0, .slice D m k, .int .i64 0]] w fun e w' => e = .returned (.tuple #[.agg #[.int .i64 a, .int .i64 b], .int .i64 s]) ∧ Plus w w' := cnumber_v hu w hL (nv_text h hl) (nv_text h hl).vld
theorem number_bg {D : Option Addr} {z k : Nat} {a b s : Int} (hu : Hid (numJ (.big z) = ⟨a, b, s⟩)) (h0 : z ≠ 0) (w : World) (hL : Lai w) (h : Ar .u32 4294967296 w D [z] 1 k) :
    Calls Tryz.prog 14 #[Value.agg #[.int .i64 4, .int .i64 0, .int .i64 0, .bool false, .slice D 1 k, .slice none 0 0, .int .i64 0]] w fun e w' => e = .returned (.tuple #[.agg #[.int .i64 a, .int .i64 b], .int .i64 s]) ∧ Plus w w' := cnumber_v hu w hL (nv_big h h0) (nv_big h h0).vld
theorem loose_tb {D : Option Addr} {us : List Nat} {m k : Nat} {z : Bool} {s : Int} (hu : Hid (readsU 0 1 us = ⟨z, s⟩)) (hl : us.length ≤ 4096) (w : World) (hL : Lai w) (h : Ar .u16 65536 w D us m k) :
    Calls Tryz.prog 31 #[Value.agg #[.int .i64 5, .int .i64 0, .int .i64 0, .bool false, .slice none 0 0, .slice D m k, .int .i64 0], Value.agg #[.int .i64 2, .int .i64 0, .int .i64 0, .bool false, .slice none 0 0, .slice none 0 0, .int .i64 1]] w fun e w' => e = .returned (.tuple #[.bool z, .int .i64 s]) ∧ Plus w w' := loose_52 w (Lib.hid (nv_text h hl).vld) (Lib.hid nv_tru.vld) (Lib.hid rfl) (Lib.hid rfl) hu (by rw [h.len]; exact hl) (Lib.hid hL) (Lib.hid h)
theorem loose_bn {D : Option Addr} {y k : Nat} {p q : Int} {z : Bool} (hu : Hid (worthB p q y = z)) (h0 : y ≠ 0) (hv : IsV p q) (w : World) (h : Ar .u32 4294967296 w D [y] 1 k) :
    Calls Tryz.prog 31 #[Value.agg #[.int .i64 4, .int .i64 0, .int .i64 0, .bool false, .slice D 1 k, .slice none 0 0, .int .i64 0], Value.agg #[.int .i64 3, .int .i64 p, .int .i64 q, .bool false, .slice none 0 0, .slice none 0 0, .int .i64 0]] w fun e w' => e = .returned (.tuple #[.bool z, .int .i64 0]) ∧ Plus w w' := loose_43 (xs2 := [y]) w (Lib.hid (nv_big h h0).vld) (Lib.hid (nv_num w hv).vld) (Lib.hid rfl) (Lib.hid rfl) (Lib.hid (by simp [Bg.bigI, Bg.mayL, Bg.lim, h0, Bg.sgn, Bg.val])) hu (isV_bd hv).1 (isV_bd hv).2 (Lib.hid (arg_ar h (by omega)))
theorem loose_un {p q : Int} (hv : IsV p q) (w : World) :
    Calls Tryz.prog 31 #[Value.agg #[.int .i64 1, .int .i64 0, .int .i64 0, .bool false, .slice none 0 0, .slice none 0 0, .int .i64 0], Value.agg #[.int .i64 3, .int .i64 p, .int .i64 q, .bool false, .slice none 0 0, .slice none 0 0, .int .i64 0]] w fun e w' => e = .returned (.tuple #[.bool false, .int .i64 0]) ∧ Plus w w' := loose_n1 w (Lib.hid nv_null.vld) (Lib.hid (nv_num w hv).vld) rfl (Lib.hid rfl) (Lib.hid rfl)
theorem index_nm {p q i s : Int} (hu : Hid (idxJ (.num p q) = ⟨i, s⟩)) (hv : IsV p q) (w : World) (hL : Lai w) :
    Calls Tryz.prog 25 #[Value.agg #[.int .i64 3, .int .i64 p, .int .i64 q, .bool false, .slice none 0 0, .slice none 0 0, .int .i64 0]] w fun e w' => e = .returned (.tuple #[.int .i64 i, .int .i64 s]) ∧ Plus w w' := cindex_v hu w hL (nv_num w hv) (nv_num w hv).vld
theorem big_n {z : Nat} {y : Int} (hy : y = z) (hz : z < 4294967296) (w : World) : Calls Tryz.prog 46 #[.int .u32 y] w (BigP z w) := by
  subst hy
  exact big_v z hz w
set_option maxRecDepth 100000 in
set_option maxHeartbeats 4000000 in
theorem first_h (w : World) (hL : Hid (Lai w)) (s1 : Hid (nats ⟨#[49, 50]⟩ = [49, 50] ∧ 2 = ([49, 50] : List Nat).length)) (s2 : Hid (nats ⟨#[49, 46, 53]⟩ = [49, 46, 53] ∧ 3 = ([49, 46, 53] : List Nat).length)) (s3 : Hid (nats ⟨#[49]⟩ = [49] ∧ 1 = ([49] : List Nat).length)) (n1 : Hid (numJ (.text [49, 50]) = ⟨0, 12, 0⟩)) (n2 : Hid (numJ (.text [49, 46, 53]) = ⟨0, 0, 3⟩)) (n3 : Hid (numJ (.big (5 : Nat)) = ⟨0, 0, 1⟩)) (l1 : Hid (readsU 0 1 [49] = ⟨true, 0⟩)) (l2 : Hid (worthB 0 2 (2 : Nat) = true)) (i1 : Hid (idxJ (.num 0 (-1)) = ⟨0, 2⟩)) (v2 : IsV 0 2) (v0 : IsV 0 0) (v1 : IsV 0 (-1)) : Calls Tryz.prog 10 #[] w fun e w' => e = .returned (.bool true) ∧ Plus w w' := by
  go_enter Tryz.func10, Tryz.ntmps10
  go_wp2_with (first | (go_at_call_of 44 (Value.string ⟨#[49, 50]⟩); (with_reducible refine (str_v s1 _ (by decide)).mono ?_); rintro e w1 ⟨D1, k1, rfl, hD1, ⟨x1, rfl⟩⟩; have HD1 := Lib.hid hD1; clear hD1) | (go_at_call_of 44 (Value.string ⟨#[49, 46, 53]⟩); (with_reducible refine (str_v s2 _ (by decide)).mono ?_); rintro e w1 ⟨D2, k2, rfl, hD2, ⟨x2, rfl⟩⟩; have HD2 := Lib.hid hD2; clear hD2) | (go_at_call_of 44 (Value.string ⟨#[49]⟩); (with_reducible refine (str_v s3 _ (by decide)).mono ?_); rintro e w1 ⟨D3, k3, rfl, hD3, ⟨x3, rfl⟩⟩; have HD3 := Lib.hid hD3; clear hD3) | (go_at_call_of 46 (Value.int IntKind.u32 5); (with_reducible refine (big_n (z := 5) (by decide) (by decide) _).mono ?_); rintro e w1 ⟨E1, lk1, rfl, hE1, ⟨y1, rfl⟩⟩; have HE1 := Lib.hid hE1; clear hE1) | (go_at_call_of 46 (Value.int IntKind.u32 2); (with_reducible refine (big_n (z := 2) (by decide) (by decide) _).mono ?_); rintro e w1 ⟨E2, lk2, rfl, hE2, ⟨y2, rfl⟩⟩; have HE2 := Lib.hid hE2; clear hE2) | (go_at_call 14; (with_reducible refine (number_txt n1 (by decide) _ (hL.out.plus (by repeat' (first | exact Plus.refl _ | refine Plus.alloc ?_ _ | refine Plus.plus ?_ _ | refine Plus.drew ?_ | refine Plus.drewN ?_ _))) (HD1.out.plus (by repeat' (first | exact Plus.refl _ | refine Plus.alloc ?_ _ | refine Plus.plus ?_ _ | refine Plus.drew ?_ | refine Plus.drewN ?_ _)))).mono ?_); rintro e w1 ⟨rfl, ⟨z1, rfl⟩⟩) | (go_at_call 14; (with_reducible refine (number_txt n2 (by decide) _ (hL.out.plus (by repeat' (first | exact Plus.refl _ | refine Plus.alloc ?_ _ | refine Plus.plus ?_ _ | refine Plus.drew ?_ | refine Plus.drewN ?_ _))) (HD2.out.plus (by repeat' (first | exact Plus.refl _ | refine Plus.alloc ?_ _ | refine Plus.plus ?_ _ | refine Plus.drew ?_ | refine Plus.drewN ?_ _)))).mono ?_); rintro e w1 ⟨rfl, ⟨z2, rfl⟩⟩) | (go_at_call 14; (with_reducible refine (number_bg n3 (by decide) _ (hL.out.plus (by repeat' (first | exact Plus.refl _ | refine Plus.alloc ?_ _ | refine Plus.plus ?_ _ | refine Plus.drew ?_ | refine Plus.drewN ?_ _))) (HE1.out.plus (by repeat' (first | exact Plus.refl _ | refine Plus.alloc ?_ _ | refine Plus.plus ?_ _ | refine Plus.drew ?_ | refine Plus.drewN ?_ _)))).mono ?_); rintro e w1 ⟨rfl, ⟨z3, rfl⟩⟩) | (go_at_call 35; (with_reducible refine (truth_t _).mono ?_); rintro e w1 ⟨rfl, ⟨z4, rfl⟩⟩) | (go_at_call 31; (with_reducible refine (loose_tb l1 (by decide) _ (hL.out.plus (by repeat' (first | exact Plus.refl _ | refine Plus.alloc ?_ _ | refine Plus.plus ?_ _ | refine Plus.drew ?_ | refine Plus.drewN ?_ _))) (HD3.out.plus (by repeat' (first | exact Plus.refl _ | refine Plus.alloc ?_ _ | refine Plus.plus ?_ _ | refine Plus.drew ?_ | refine Plus.drewN ?_ _)))).mono ?_); rintro e w1 ⟨rfl, ⟨z5, rfl⟩⟩) | (go_at_call 31; (with_reducible refine (loose_bn l2 (by decide) v2 _ (HE2.out.plus (by repeat' (first | exact Plus.refl _ | refine Plus.alloc ?_ _ | refine Plus.plus ?_ _ | refine Plus.drew ?_ | refine Plus.drewN ?_ _)))).mono ?_); rintro e w1 ⟨rfl, ⟨z6, rfl⟩⟩) | (go_at_call 31; (with_reducible refine (loose_un v0 _).mono ?_); rintro e w1 ⟨rfl, ⟨z7, rfl⟩⟩) | (go_at_call 43; (with_reducible refine (whole_k _ _).mono ?_); rintro e w1 ⟨rfl, ⟨z8, rfl⟩⟩) | (go_at_call 25; (with_reducible refine (index_nm i1 v1 _ (hL.out.plus (by repeat' (first | exact Plus.refl _ | refine Plus.alloc ?_ _ | refine Plus.plus ?_ _ | refine Plus.drew ?_ | refine Plus.drewN ?_ _)))).mono ?_); rintro e w1 ⟨rfl, ⟨z9, rfl⟩⟩))


  go_returns
  exact ⟨rfl, (by repeat' (first | exact Plus.refl _ | refine Plus.alloc ?_ _ | refine Plus.plus ?_ _ | refine Plus.drew ?_ | refine Plus.drewN ?_ _))⟩
theorem first_c (w : World) (hL : Lai w) : Calls Tryz.prog 10 #[] w fun e w' => e = .returned (.bool true) ∧ Plus w w' :=
  first_h w (Lib.hid hL) (Lib.hid (by decide)) (Lib.hid (by decide)) (Lib.hid (by decide)) (Lib.hid (by kernel_rfl)) (Lib.hid (by kernel_rfl)) (Lib.hid rfl) (Lib.hid (by kernel_rfl)) (Lib.hid (by kernel_rfl)) (Lib.hid (by kernel_rfl)) (.inl ⟨rfl, by decide, by decide⟩) (.inl ⟨rfl, by decide, by decide⟩) (.inl ⟨rfl, by decide, by decide⟩)
end Go.Proofs.YtmlfcmmgoiigkaaGreatDoor

namespace Go.Proofs.YtmlfcmmgoiigkaaGreatDoor
open Go.RowKit

set_option maxRecDepth 100000 in
set_option maxHeartbeats 4000000 in
theorem few_y {k p q : Int} {g : Bool} {A C : Option Addr} {n c m d : Nat} {r : Int} (w : World) (h1 : m ≤ 20000) (h2 : decide ((n : Int) ≤ 40) = true) : Calls Tryz.prog 11 #[Value.agg #[.int .i64 k, .int .i64 p, .int .i64 q, .bool g, .slice A n c, .slice C m d, .int .i64 r]] w fun e w' => e = .returned (.bool true) ∧ Plus w w' := by
  go_enter Tryz.func11, Tryz.ntmps11
  go_wp2_with fail
  go_returns
  exact ⟨rfl, (by repeat' (first | exact Plus.refl _ | refine Plus.alloc ?_ _ | refine Plus.plus ?_ _ | refine Plus.drew ?_ | refine Plus.drewN ?_ _))⟩
set_option maxRecDepth 100000 in
set_option maxHeartbeats 4000000 in
theorem few_n1 {k p q : Int} {g : Bool} {A C : Option Addr} {n c m d : Nat} {r : Int} (w : World) (h1 : ¬ m ≤ 20000) : Calls Tryz.prog 11 #[Value.agg #[.int .i64 k, .int .i64 p, .int .i64 q, .bool g, .slice A n c, .slice C m d, .int .i64 r]] w fun e w' => e = .returned (.bool false) ∧ Plus w w' := by
  go_enter Tryz.func11, Tryz.ntmps11
  go_wp2_with fail
  go_returns
  exact ⟨rfl, (by repeat' (first | exact Plus.refl _ | refine Plus.alloc ?_ _ | refine Plus.plus ?_ _ | refine Plus.drew ?_ | refine Plus.drewN ?_ _))⟩
set_option maxRecDepth 100000 in
set_option maxHeartbeats 4000000 in
theorem few_n2 {k p q : Int} {g : Bool} {A C : Option Addr} {n c m d : Nat} {r : Int} (w : World) (h1 : m ≤ 20000) (h2 : decide ((n : Int) ≤ 40) = false) : Calls Tryz.prog 11 #[Value.agg #[.int .i64 k, .int .i64 p, .int .i64 q, .bool g, .slice A n c, .slice C m d, .int .i64 r]] w fun e w' => e = .returned (.bool false) ∧ Plus w w' := by
  go_enter Tryz.func11, Tryz.ntmps11
  go_wp2_with fail
  go_returns
  exact ⟨rfl, (by repeat' (first | exact Plus.refl _ | refine Plus.alloc ?_ _ | refine Plus.plus ?_ _ | refine Plus.drew ?_ | refine Plus.drewN ?_ _))⟩
def fewB (m n : Nat) : Bool := decide (m ≤ 20000 ∧ n ≤ 40)
theorem few_v {k p q : Int} {g : Bool} {A C : Option Addr} {n c m d : Nat} {r : Int} {z : Bool} (hz : Hid (fewB m n = z)) (w : World) : Calls Tryz.prog 11 #[Value.agg #[.int .i64 k, .int .i64 p, .int .i64 q, .bool g, .slice A n c, .slice C m d, .int .i64 r]] w fun e w' => e = .returned (.bool z) ∧ Plus w w' := by
  obtain rfl := hz.out
  by_cases h1 : m ≤ 20000
  · by_cases h2 : n ≤ 40
    · rw [show fewB m n = true by simp [fewB, h1, h2]]
      exact few_y w h1 (by simp; omega)
    · rw [show fewB m n = false by simp [fewB, h2]]
      exact few_n2 w h1 (by simp; omega)
  · rw [show fewB m n = false by simp [fewB, h1]]
    exact few_n1 w h1
theorem few_of {m n : Nat} (h : fewB m n = true) : m ≤ 20000 ∧ n ≤ 40 := by unfold fewB at h; exact of_decide_eq_true h
def okJ : JV → Prop
  | .num p q => IsV p q
  | .big z => z.natAbs < Bg.B ^ 8
  | .text us => us.length ≤ 4096 ∧ ∀ x ∈ us, x < 65536
  | _ => True
theorem NV.ok {w : World} {v : Value} {x : JV} (h : NV w v x) : okJ x := by
  cases x with
  | num p q => obtain ⟨A, C, c, d, _, _, _, h3⟩ := h; exact h3
  | big z => obtain ⟨g, A, C, xs, n, c, d, _, _, _, rfl, h4⟩ := h; exact Bg.bigI_abs h4.lim.1
  | text us => obtain ⟨A, C, c, m, d, _, _, h2, h3⟩ := h; exact ⟨h2, h3.bd⟩
  | _ => trivial
theorem equalS_cases {p q r s : Int} (h1 : IsV p q) (h2 : IsV r s) (h : equalS p q r s = true) : (p = r ∧ q = s) ∨ (q = 0 ∧ s = 0 ∧ (p = 0 ∨ p = 1) ∧ (r = 0 ∨ r = 1)) := by
  unfold equalS place at h
  rcases h1 with ⟨rfl, a, b⟩ | ⟨rfl, rfl⟩ | ⟨rfl, rfl⟩ | ⟨rfl, rfl⟩ | ⟨rfl, rfl⟩ <;> rcases h2 with ⟨rfl, c, d⟩ | ⟨rfl, rfl⟩ | ⟨rfl, rfl⟩ | ⟨rfl, rfl⟩ | ⟨rfl, rfl⟩ <;> simp at h ⊢ <;> omega
theorem equalS_refl {p q : Int} (h : (p == 2) = false) : equalS p q p q = true := by unfold equalS; simp [h]
theorem strict_eqv {x y : JV} (h1 : okJ x) (h2 : okJ y) (h : strictJ x y = true) : txtJ x = txtJ y ∧ idxJ x = idxJ y ∧ boolJ x = boolJ y := by
  cases x <;> cases y <;> simp only [strictJ, Bool.false_eq_true] at h
  case undef.undef => exact ⟨rfl, rfl, rfl⟩
  case null.null => exact ⟨rfl, rfl, rfl⟩
  case bool.bool a b => obtain rfl : a = b := by simpa using h
                        exact ⟨rfl, rfl, rfl⟩
  case num.num p q r s =>
    rcases equalS_cases h1 h2 h with ⟨rfl, rfl⟩ | ⟨rfl, rfl, hp, hr⟩
    · exact ⟨rfl, rfl, rfl⟩
    · rcases hp with rfl | rfl <;> rcases hr with rfl | rfl <;> exact ⟨rfl, rfl, rfl⟩
  case big.big a b => obtain rfl : a = b := by simpa using h
                      exact ⟨rfl, rfl, rfl⟩
  case text.text a b => obtain rfl : a = b := by simpa using h
                        exact ⟨rfl, rfl, rfl⟩
  case obj.obj a b => obtain rfl : a = b := by simpa using h
                      exact ⟨rfl, rfl, rfl⟩
theorem equalS_place {p q r s : Int} : equalS p q r s = true ↔ (p ≠ 2 ∧ r ≠ 2 ∧ place p q = place r s) := by unfold equalS; simp
theorem strict_trans {x y z : JV} (h1 : strictJ x y = true) (h2 : strictJ y z = true) : strictJ x z = true := by
  cases x <;> cases y <;> simp only [strictJ, Bool.false_eq_true] at h1 <;> cases z <;> simp only [strictJ, Bool.false_eq_true] at h2 ⊢
  case bool.bool.bool a b c => simp at h1 h2 ⊢; exact h1.trans h2
  case num.num.num => rw [equalS_place] at h1 h2 ⊢; exact ⟨h1.1, h2.2.1, h1.2.2.trans h2.2.2⟩
  case big.big.big => simp at h1 h2 ⊢; exact h1.trans h2
  case text.text.text => simp at h1 h2 ⊢; exact h1.trans h2
  case obj.obj.obj => simp at h1 h2 ⊢; exact h1.trans h2
theorem strict_symm (x y : JV) : strictJ x y = strictJ y x := by
  cases x <;> cases y <;> simp only [strictJ]
  case bool.bool a b => cases a <;> cases b <;> rfl
  case num.num p q r s => rw [Bool.eq_iff_iff, equalS_place, equalS_place]; constructor <;> (rintro ⟨a, b, c⟩; exact ⟨b, a, c.symm⟩)
  case big.big a b => simp [eq_comm]
  case text.text a b => simp [eq_comm]
  case obj.obj a b => simp [eq_comm]
end Go.Proofs.YtmlfcmmgoiigkaaGreatDoor
