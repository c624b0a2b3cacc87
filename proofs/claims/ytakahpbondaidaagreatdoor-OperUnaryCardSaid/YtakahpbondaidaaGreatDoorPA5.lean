/- The document's numbers: Add, Uint32, Int32, Bit. -/
import Derived.WalkKit
import Derived.WalkSpells
import Derived.WalkLawsBesides
import Derived.Handy
import Derived.Deep.RegionHeld3
import Derived.Deep.DeepCutAuto
import Derived.Deep.QuietTactic
import Derived.BigQuiet
import Derived.Lib.Hide
import Derived.KernelRfl
import Derived.Test.YtakahpbondaidaaGreatDoorPZT
import Derived.Test.YtakahpbondaidaaGreatDoorPA1
namespace Go.Proofs.YtakahpbondaidaaGreatDoor
open Go.RowKit

theorem rof_c (n : Int) (w : World) : Calls Tryz.prog 232 #[.int .i64 n] w fun e w' => e = .returned (.tuple #[.agg #[.int .i64 (ofS n).k, .int .i64 (ofS n).n], .bool (ofS n).ok]) ∧ Plus w w' := by
  by_cases h : -9007199254740991 ≤ n ∧ n ≤ 9007199254740991
  · have h1 : ofS n = ⟨0, n, true⟩ := by unfold ofS; rw [if_pos h]
    have ha : ¬ n < -9007199254740991 := by omega
    have hb : ¬ 9007199254740991 < n := by omega
    rw [h1]; clear h1 h
    go_enter Tryz.func232, Tryz.ntmps232
    go_wp2_with (go_at_call 46; refine (rNaN_c _).mono ?_; rintro e w1 ⟨rfl, ⟨x2, rfl⟩⟩)
    go_returns
    refine ⟨rfl, ?_⟩
    repeat' (first | exact Plus.refl _ | refine Plus.alloc ?_ _ | refine Plus.plus ?_ _ | refine Plus.drew ?_ | refine Plus.drewN ?_ _)
  · have h1 : ofS n = ⟨2, 0, false⟩ := by unfold ofS; rw [if_neg h]
    rw [h1]; clear h1
    go_enter Tryz.func232, Tryz.ntmps232
    go_wp2_with (go_at_call 46; refine (rNaN_c _).mono ?_; rintro e w1 ⟨rfl, ⟨x2, rfl⟩⟩)
    all_goals first | (exfalso; omega) | skip
    all_goals go_returns
    all_goals refine ⟨rfl, ?_⟩
    all_goals (repeat' (first | exact Plus.refl _ | refine Plus.alloc ?_ _ | refine Plus.plus ?_ _ | refine Plus.drew ?_ | refine Plus.drewN ?_ _))

set_option maxHeartbeats 4000000 in
theorem radd_h (k n l m p q r s : Int) (h1 : Hid (vk k n = p ∧ vn k n = q)) (h2 : Hid (vk l m = r ∧ vn l m = s)) (hp : Hid (IsV p q)) (hr : Hid (IsV r s)) (w : World) :
    Calls Tryz.prog 170 #[.agg #[.int .i64 k, .int .i64 n], .agg #[.int .i64 l, .int .i64 m]] w fun e w' => e = .returned (.tuple #[.agg #[.int .i64 (addS p q r s).k, .int .i64 (addS p q r s).n], .bool (addS p q r s).ok]) ∧ Plus w w' := by
  go_enter Tryz.func170, Tryz.ntmps170
  go_upto_region 1 with fail
  go_cut [6, 7] (fun sa sb wx => ∃ b c, sa = .pointer (some ⟨b, 0, none⟩) ∧ sb = .pointer (some ⟨c, 0, none⟩) ∧ Plus (((w.alloc (.cells #[.int .i64 k, .int .i64 n] 23)).alloc (.cells #[.int .i64 l, .int .i64 m] 23)).alloc (.cells #[.int .i64 0, .int .i64 0] 23)) wx ∧ Box wx b p q ∧ Box wx c r s)
  case first =>
    go_region_held3 (fun w' => Plus (((w.alloc (.cells #[.int .i64 k, .int .i64 n] 23)).alloc (.cells #[.int .i64 l, .int .i64 m] 23)).alloc (.cells #[.int .i64 0, .int .i64 0] 23)) w' ∧ w'.cell? ⟨w.heap.size, 0, none⟩ = some (.int .i64 k) ∧ w'.cell? ⟨w.heap.size, 1, none⟩ = some (.int .i64 n) ∧ w'.cell? ⟨w.heap.size + 1, 0, none⟩ = some (.int .i64 l) ∧ w'.cell? ⟨w.heap.size + 1, 1, none⟩ = some (.int .i64 m))
      (exact box_S3 (by repeat' (first | exact Plus.refl _ | refine Plus.alloc ?_ _ | refine Plus.plus ?_ _ | refine Plus.drew ?_ | refine Plus.drewN ?_ _)))
      (first | (go_at_call_of 122 (Value.agg #[.int .i64 k, .int .i64 n]); refine (rgood_h h1 _).mono ?_; rintro e w1 ⟨rfl, ⟨x1, rfl⟩⟩) | (go_at_call_of 122 (Value.agg #[.int .i64 l, .int .i64 m]); refine (rgood_h h2 _).mono ?_; rintro e w1 ⟨rfl, ⟨x1, rfl⟩⟩))
    all_goals (go_wp2_with fail; go_meet; refine ⟨_, _, rfl, rfl, ?_, ?_, ?_⟩)
    all_goals first | ((repeat' (first | exact Plus.refl _ | refine Plus.alloc ?_ _ | refine Plus.plus ?_ _ | refine Plus.drew ?_ | refine Plus.drewN ?_ _)); done) | ((repeat' (first | (refine Box.new' ?_; (simp [go_sem]; done)) | refine Box.alloc ?_ _ | refine Box.grow ?_ _ | refine Box.drew ?_)); done) | skip
    all_goals go_show
  case rest =>
    obtain ⟨b, c, rfl, rfl, hP, hb, hc⟩ := hcut
    have hd := box_r hP
    have hPw := hP.of_alloc.of_alloc.of_alloc
    clear hP
    have g1 := hp.out
    have g2 := hr.out
    clear h1 h2 hp hr
    obtain ⟨hb0, hb1, hb2, hb3, hb4⟩ := hb
    obtain ⟨hc0, hc1, hc2, hc3, hc4⟩ := hc
    haveI : Old b wc := ⟨hb4⟩
    haveI : Old c wc := ⟨hc4⟩
    clear hb4 hc4
    obtain ⟨hd0, hd1, hd2, hd3, hd4⟩ := hd
    haveI : Old (w.heap.size + 1 + 1) wc := ⟨hd4⟩
    haveI : HasCell wc (w.heap.size + 1 + 1) 0 := ⟨_, hd0⟩
    haveI : HasCell wc (w.heap.size + 1 + 1) 1 := ⟨_, hd1⟩
    clear hd4
    by_cases hp2 : p = 2
    · subst hp2
      go_wp2_with (first | (go_at_call 135; refine (rnan_c _ _ _).mono ?_; rintro e w1 ⟨rfl, ⟨x1, rfl⟩⟩) | (go_at_call 148; refine (rinf_c _ _ _).mono ?_; rintro e w1 ⟨rfl, ⟨x1, rfl⟩⟩) | (go_at_call 46; refine (rNaN_c _).mono ?_; rintro e w1 ⟨rfl, ⟨x2, rfl⟩⟩) | (go_at_call 232; refine (rof_c _ _).mono ?_; rintro e w1 ⟨rfl, ⟨x2, rfl⟩⟩))
      go_returns
      refine ⟨?_, ?_⟩
      · simp [addS]
      · repeat' (first | exact hPw | refine Plus.alloc ?_ _ | refine Plus.plus ?_ _ | (refine Plus.setCell ?_ (by show w.heap.size ≤ w.heap.size + 1 + 1; omega) _) | refine Plus.drew ?_ | refine Plus.drewN ?_ _)
    by_cases hr2 : r = 2
    · subst hr2
      have e2 := beq_f hp2
      go_wp2_with (first | (go_at_call 135; refine (rnan_c _ _ _).mono ?_; rintro e w1 ⟨rfl, ⟨x1, rfl⟩⟩) | (go_at_call 148; refine (rinf_c _ _ _).mono ?_; rintro e w1 ⟨rfl, ⟨x1, rfl⟩⟩) | (go_at_call 46; refine (rNaN_c _).mono ?_; rintro e w1 ⟨rfl, ⟨x2, rfl⟩⟩) | (go_at_call 232; refine (rof_c _ _).mono ?_; rintro e w1 ⟨rfl, ⟨x2, rfl⟩⟩))
      go_returns
      refine ⟨?_, ?_⟩
      · simp [addS]
      · repeat' (first | exact hPw | refine Plus.alloc ?_ _ | refine Plus.plus ?_ _ | (refine Plus.setCell ?_ (by show w.heap.size ≤ w.heap.size + 1 + 1; omega) _) | refine Plus.drew ?_ | refine Plus.drewN ?_ _)
    rcases g1 with ⟨rfl, a1, a2⟩ | ⟨rfl, rfl⟩ | ⟨rfl, rfl⟩ | ⟨rfl, rfl⟩ | ⟨rfl, rfl⟩ <;> rcases g2 with ⟨rfl, b1, b2⟩ | ⟨rfl, rfl⟩ | ⟨rfl, rfl⟩ | ⟨rfl, rfl⟩ | ⟨rfl, rfl⟩
    all_goals first | (exact absurd rfl hp2) | (exact absurd rfl hr2) | skip
    all_goals clear hp2 hr2
    all_goals go_wp2_with (first | (go_at_call 135; refine (rnan_c _ _ _).mono ?_; rintro e w1 ⟨rfl, ⟨x1, rfl⟩⟩) | (go_at_call 148; refine (rinf_c _ _ _).mono ?_; rintro e w1 ⟨rfl, ⟨x1, rfl⟩⟩) | (go_at_call 46; refine (rNaN_c _).mono ?_; rintro e w1 ⟨rfl, ⟨x2, rfl⟩⟩) | (go_at_call 232; refine (rof_c _ _).mono ?_; rintro e w1 ⟨rfl, ⟨x2, rfl⟩⟩))
    all_goals go_returns
    all_goals refine ⟨?_, ?_⟩
    all_goals first | (simp [addS, *]; done) | (with_reducible (repeat' (first | exact hPw | refine Plus.alloc ?_ _ | refine Plus.plus ?_ _ | (refine Plus.setCell ?_ (by show w.heap.size ≤ w.heap.size + 1 + 1; omega) _) | refine Plus.drew ?_ | refine Plus.drewN ?_ _)); done) | (simp_all [addS]; done) | skip
    all_goals go_show

theorem radd_c (k n l m : Int) (w : World) : Calls Tryz.prog 170 #[.agg #[.int .i64 k, .int .i64 n], .agg #[.int .i64 l, .int .i64 m]] w fun e w' => e = .returned (.tuple #[.agg #[.int .i64 (addR k n l m).k, .int .i64 (addR k n l m).n], .bool (addR k n l m).ok]) ∧ Plus w w' :=
  radd_h k n l m _ _ _ _ ⟨rfl, rfl⟩ ⟨rfl, rfl⟩ (isV_v k n) (isV_v l m) w

theorem i64_and_nat (a b : Nat) (ha : a < 4294967296) (hb : b < 4294967296) : bits .and .i64 (a : Int) (b : Int) = ((a &&& b : Nat) : Int) := by
  have hx : a &&& b < 2 ^ 32 := Nat.and_lt_two_pow _ (by omega)
  show IntKind.i64.wrap ((BitVec.ofInt 64 (a : Int) &&& BitVec.ofInt 64 (b : Int)).toNat : Int) = _
  rw [BitVec.toNat_and, ofInt_u64 a (by omega), ofInt_u64 b (by omega), IntKind.wrap_i64]
  omega
theorem i64_and (a b : Int) (h1 : 0 ≤ a) (h2 : a < 4294967296) (h3 : 0 ≤ b) (h4 : b < 4294967296) : bits .and .i64 a b = ((a.toNat &&& b.toNat : Nat) : Int) := by
  obtain ⟨A, rfl⟩ := Int.eq_ofNat_of_zero_le h1
  obtain ⟨B, rfl⟩ := Int.eq_ofNat_of_zero_le h3
  simpa using i64_and_nat A B (by omega) (by omega)
theorem i64_or_nat (a b : Nat) (ha : a < 4294967296) (hb : b < 4294967296) : bits .or .i64 (a : Int) (b : Int) = ((a ||| b : Nat) : Int) := by
  have hx : a ||| b < 2 ^ 32 := Nat.or_lt_two_pow (by omega) (by omega)
  show IntKind.i64.wrap ((BitVec.ofInt 64 (a : Int) ||| BitVec.ofInt 64 (b : Int)).toNat : Int) = _
  rw [BitVec.toNat_or, ofInt_u64 a (by omega), ofInt_u64 b (by omega), IntKind.wrap_i64]
  omega
theorem i64_or (a b : Int) (h1 : 0 ≤ a) (h2 : a < 4294967296) (h3 : 0 ≤ b) (h4 : b < 4294967296) : bits .or .i64 a b = ((a.toNat ||| b.toNat : Nat) : Int) := by
  obtain ⟨A, rfl⟩ := Int.eq_ofNat_of_zero_le h1
  obtain ⟨B, rfl⟩ := Int.eq_ofNat_of_zero_le h3
  simpa using i64_or_nat A B (by omega) (by omega)
theorem i64_xor_nat (a b : Nat) (ha : a < 4294967296) (hb : b < 4294967296) : bits .xor .i64 (a : Int) (b : Int) = ((a ^^^ b : Nat) : Int) := by
  have hx : a ^^^ b < 2 ^ 32 := Nat.xor_lt_two_pow (by omega) (by omega)
  show IntKind.i64.wrap ((BitVec.ofInt 64 (a : Int) ^^^ BitVec.ofInt 64 (b : Int)).toNat : Int) = _
  rw [BitVec.toNat_xor, ofInt_u64 a (by omega), ofInt_u64 b (by omega), IntKind.wrap_i64]
  omega
theorem i64_xor (a b : Int) (h1 : 0 ≤ a) (h2 : a < 4294967296) (h3 : 0 ≤ b) (h4 : b < 4294967296) : bits .xor .i64 a b = ((a.toNat ^^^ b.toNat : Nat) : Int) := by
  obtain ⟨A, rfl⟩ := Int.eq_ofNat_of_zero_le h1
  obtain ⟨B, rfl⟩ := Int.eq_ofNat_of_zero_le h3
  simpa using i64_xor_nat A B (by omega) (by omega)
theorem sg_0 {z : Int} (h0 : 0 ≤ z) (h1 : z < 4294967296) : i32R 0 z = sg z := by
  have hv : IsV 0 z := .inl ⟨rfl, by omega, by omega⟩
  have e : wordR 0 z = z := by
    unfold wordR
    rw [vk_of hv, vn_of hv]
    unfold wordS
    rw [if_pos rfl]
    omega
  rw [sg_i32, e]
section
variable {x y : Int} (hx0 : 0 ≤ x) (hx1 : x < 4294967296) (hy0 : 0 ≤ y) (hy1 : y < 4294967296)
include hx0 hx1 hy0 hy1
theorem rbit1_is : i32R 0 (bits BinOp.and IntKind.i64 x y) = bitN 1 x y := by
  rw [i64_and x y hx0 hx1 hy0 hy1, bitN1]
  exact sg_0 (by omega) (by have := @and_lt x.toNat y.toNat (by omega); omega)
theorem rbit2_is : i32R 0 (bits BinOp.or IntKind.i64 x y) = bitN 2 x y := by
  rw [i64_or x y hx0 hx1 hy0 hy1, bitN2]
  exact sg_0 (by omega) (by have := @or_lt x.toNat y.toNat (by omega) (by omega); omega)
theorem rbit3_is : i32R 0 (bits BinOp.xor IntKind.i64 x y) = bitN 3 x y := by
  rw [i64_xor x y hx0 hx1 hy0 hy1, bitN3]
  exact sg_0 (by omega) (by have := @xor_lt x.toNat y.toNat (by omega) (by omega); omega)
end
theorem pow_le (s : Nat) (h : s < 32) : (2 : Int) ^ s ≤ 2147483648 := by
  have h1 : (2 : Nat) ^ s ≤ 2 ^ 31 := Nat.pow_le_pow_right (by decide) (by omega)
  have h2 : (((2 : Nat) ^ s : Nat) : Int) ≤ ((2 ^ 31 : Nat) : Int) := Int.ofNat_le.2 h1
  simpa using h2
theorem rbit4_is {x y : Int} (hx0 : 0 ≤ x) (hx1 : x < 4294967296) : i32R 0 ((wrap64 (x * 2 ^ (y % 32).toNat)).tmod 4294967296) = bitN 4 x y := by
  have hp := pow_le (y % 32).toNat (by omega)
  have hq : (0 : Int) < 2 ^ (y % 32).toNat := Int.pow_pos (by decide)
  have h1 : 0 ≤ x * 2 ^ (y % 32).toNat := Int.mul_nonneg hx0 (Int.le_of_lt hq)
  have h2 : x * 2 ^ (y % 32).toNat ≤ 4294967295 * 2147483648 := Int.mul_le_mul (by omega) hp (by omega) (by decide)
  rw [bitN4]
  obtain ⟨z, hz⟩ : ∃ z, z = x * 2 ^ (y % 32).toNat := ⟨_, rfl⟩
  rw [← hz] at h1 h2 ⊢
  clear hz
  rw [IntWalk.wrap64_in z (by omega), Int.tmod_eq_emod_of_nonneg h1]
  exact sg_0 (by omega) (by omega)

theorem word_ref {q : Int} (h1 : -9007199254740991 ≤ q) (h2 : q ≤ 9007199254740991) : (wrap64 (q.tmod 4294967296 + 4294967296)).tmod 4294967296 = q % 4294967296 := by
  have b := Int.tmod_lt_of_pos q (show (0 : Int) < 4294967296 by decide)
  have c : -4294967296 < q.tmod 4294967296 := by
    rcases Int.le_total 0 q with h | h
    · have := Int.tmod_nonneg 4294967296 h; omega
    · have e : q.tmod 4294967296 = -((-q).tmod 4294967296) := by rw [Int.neg_tmod]; omega
      have := Int.tmod_lt_of_pos (-q) (show (0 : Int) < 4294967296 by decide)
      omega
  rw [IntWalk.wrap64_in _ (by omega), Int.tmod_eq_emod_of_nonneg (by omega)]
  rcases Int.le_total 0 q with h | h
  · rw [Int.tmod_eq_emod_of_nonneg h]; omega
  · have e : q.tmod 4294967296 = -((-q).tmod 4294967296) := by rw [Int.neg_tmod]; omega
    rw [e, Int.tmod_eq_emod_of_nonneg (by omega : 0 ≤ -q)]; omega
set_option maxHeartbeats 2000000 in
theorem ru32_h {k n p q : Int} (h1 : Hid (vk k n = p ∧ vn k n = q)) (hp : Hid (IsV p q)) (w : World) :
    Calls Tryz.prog 146 #[.agg #[.int .i64 k, .int .i64 n]] w fun e w' => e = .returned (.int .i64 (wordS p q)) ∧ Plus w w' := by
  have g1 := hp.out
  clear hp
  rcases g1 with ⟨rfl, hq1, hq2⟩ | ⟨rfl, rfl⟩ | ⟨rfl, rfl⟩ | ⟨rfl, rfl⟩ | ⟨rfl, rfl⟩
  · have hw := Lib.hid (word_ref hq1 hq2)
    go_enter Tryz.func146, Tryz.ntmps146
    go_wp2_with (first | (go_at_call 122; refine (rgood_h h1 _).mono ?_; rintro e w1 ⟨rfl, ⟨x0, rfl⟩⟩))
    go_returns
    refine ⟨?_, ?_⟩
    · show Ending.returned (.int .i64 ((wrap64 (q.tmod 4294967296 + 4294967296)).tmod 4294967296)) = _
      rw [hw.out]; rfl
    · repeat' (first | exact Plus.refl _ | refine Plus.alloc ?_ _ | refine Plus.plus ?_ _ | refine Plus.drew ?_ | refine Plus.drewN ?_ _)
  all_goals go_enter Tryz.func146, Tryz.ntmps146
  all_goals go_wp2_with (first | (go_at_call 122; refine (rgood_h h1 _).mono ?_; rintro e w1 ⟨rfl, ⟨x0, rfl⟩⟩))
  all_goals go_returns
  all_goals refine ⟨?_, ?_⟩
  all_goals first | (simp [wordS, *]; done) | (with_reducible (repeat' (first | exact Plus.refl _ | refine Plus.alloc ?_ _ | refine Plus.plus ?_ _ | refine Plus.drew ?_ | refine Plus.drewN ?_ _)); done) | skip
theorem ru32_c (k n : Int) (w : World) : Calls Tryz.prog 146 #[.agg #[.int .i64 k, .int .i64 n]] w fun e w' => e = .returned (.int .i64 (wordR k n)) ∧ Plus w w' :=
  ru32_h ⟨rfl, rfl⟩ (isV_v k n) w
theorem ru32_x {k n x : Int} (h : Hid (wordR k n = x)) (w : World) : Calls Tryz.prog 146 #[.agg #[.int .i64 k, .int .i64 n]] w fun e w' => e = .returned (.int .i64 x) ∧ Plus w w' := by
  have := h.out
  subst this
  exact ru32_c k n w
theorem ri32_x {k n x : Int} (h : Hid (wordR k n = x)) (h0 : 0 ≤ x) (h1 : x < 4294967296) (w : World) : Calls Tryz.prog 147 #[.agg #[.int .i64 k, .int .i64 n]] w fun e w' => e = .returned (.int .i64 (sg x)) ∧ Plus w w' := by
  by_cases hb : x < 2147483648
  · have e : sg x = x := by unfold sg; rw [if_pos hb]
    rw [e]; clear e
    go_enter Tryz.func147, Tryz.ntmps147
    go_wp2_with ((go_at_call 146; refine (ru32_x h _).mono ?_; rintro e w1 ⟨rfl, ⟨x1, rfl⟩⟩))
    go_returns
    refine ⟨rfl, ?_⟩
    repeat' (first | exact Plus.refl _ | refine Plus.alloc ?_ _ | refine Plus.plus ?_ _ | refine Plus.drew ?_ | refine Plus.drewN ?_ _)
  · have e : sg x = x - 4294967296 := by unfold sg; rw [if_neg hb]
    rw [e]; clear e
    go_enter Tryz.func147, Tryz.ntmps147
    go_wp2_with ((go_at_call 146; refine (ru32_x h _).mono ?_; rintro e w1 ⟨rfl, ⟨x1, rfl⟩⟩))
    go_returns
    refine ⟨rfl, ?_⟩
    repeat' (first | exact Plus.refl _ | refine Plus.alloc ?_ _ | refine Plus.plus ?_ _ | refine Plus.drew ?_ | refine Plus.drewN ?_ _)
theorem ri32_c (k n : Int) (w : World) : Calls Tryz.prog 147 #[.agg #[.int .i64 k, .int .i64 n]] w fun e w' => e = .returned (.int .i64 (i32R k n)) ∧ Plus w w' := by
  have h := word_bd k n
  exact ri32_x (Lib.hid rfl) h.1 h.2 w
set_option maxHeartbeats 1000000 in
theorem rbit1_x (k n l m x y : Int) (hx : Hid (wordR k n = x)) (hy : Hid (wordR l m = y)) (hx0 : 0 ≤ x) (hx1 : x < 4294967296) (hy0 : 0 ≤ y) (hy1 : y < 4294967296) (w : World) :
    Calls Tryz.prog 88 #[.int .i64 1, .agg #[.int .i64 k, .int .i64 n], .agg #[.int .i64 l, .int .i64 m]] w fun e w' => e = .returned (.agg #[.int .i64 0, .int .i64 (bitN 1 x y)]) ∧ Plus w w' := by
  go_enter Tryz.func88, Tryz.ntmps88
  go_wp2_with fail
  refine wp_region_plus (by kernel_rfl) (by kernel_rfl) ?_
  repeat (go_big_quiet_step ((first | (go_at_call_of 146 (Value.agg #[.int .i64 k, .int .i64 n]); exact calls_plus (ru32_x hx _)) | (go_at_call_of 146 (Value.agg #[.int .i64 l, .int .i64 m]); exact calls_plus (ru32_x hy _)))))
  refine wpQuiet_nil ?_
  intro _ hw'
  obtain ⟨x3, rfl⟩ := hw'
  go_wp2_with ((go_at_call 147; refine (ri32_c _ _ _).mono ?_; rintro e w1 ⟨rfl, ⟨x1, rfl⟩⟩))
  go_returns
  refine ⟨by rw [rbit1_is hx0 hx1 hy0 hy1], ?_⟩
  repeat' (first | exact Plus.refl _ | refine Plus.alloc ?_ _ | refine Plus.plus ?_ _ | refine Plus.drew ?_ | refine Plus.drewN ?_ _)

set_option maxHeartbeats 1000000 in
theorem rbit2_x (k n l m x y : Int) (hx : Hid (wordR k n = x)) (hy : Hid (wordR l m = y)) (hx0 : 0 ≤ x) (hx1 : x < 4294967296) (hy0 : 0 ≤ y) (hy1 : y < 4294967296) (w : World) :
    Calls Tryz.prog 88 #[.int .i64 2, .agg #[.int .i64 k, .int .i64 n], .agg #[.int .i64 l, .int .i64 m]] w fun e w' => e = .returned (.agg #[.int .i64 0, .int .i64 (bitN 2 x y)]) ∧ Plus w w' := by
  go_enter Tryz.func88, Tryz.ntmps88
  go_wp2_with fail
  refine wp_region_plus (by kernel_rfl) (by kernel_rfl) ?_
  repeat (go_big_quiet_step ((first | (go_at_call_of 146 (Value.agg #[.int .i64 k, .int .i64 n]); exact calls_plus (ru32_x hx _)) | (go_at_call_of 146 (Value.agg #[.int .i64 l, .int .i64 m]); exact calls_plus (ru32_x hy _)))))
  refine wpQuiet_nil ?_
  intro _ hw'
  obtain ⟨x3, rfl⟩ := hw'
  go_wp2_with ((go_at_call 147; refine (ri32_c _ _ _).mono ?_; rintro e w1 ⟨rfl, ⟨x1, rfl⟩⟩))
  go_returns
  refine ⟨by rw [rbit2_is hx0 hx1 hy0 hy1], ?_⟩
  repeat' (first | exact Plus.refl _ | refine Plus.alloc ?_ _ | refine Plus.plus ?_ _ | refine Plus.drew ?_ | refine Plus.drewN ?_ _)

set_option maxHeartbeats 1000000 in
theorem rbit3_x (k n l m x y : Int) (hx : Hid (wordR k n = x)) (hy : Hid (wordR l m = y)) (hx0 : 0 ≤ x) (hx1 : x < 4294967296) (hy0 : 0 ≤ y) (hy1 : y < 4294967296) (w : World) :
    Calls Tryz.prog 88 #[.int .i64 3, .agg #[.int .i64 k, .int .i64 n], .agg #[.int .i64 l, .int .i64 m]] w fun e w' => e = .returned (.agg #[.int .i64 0, .int .i64 (bitN 3 x y)]) ∧ Plus w w' := by
  go_enter Tryz.func88, Tryz.ntmps88
  go_wp2_with fail
  refine wp_region_plus (by kernel_rfl) (by kernel_rfl) ?_
  repeat (go_big_quiet_step ((first | (go_at_call_of 146 (Value.agg #[.int .i64 k, .int .i64 n]); exact calls_plus (ru32_x hx _)) | (go_at_call_of 146 (Value.agg #[.int .i64 l, .int .i64 m]); exact calls_plus (ru32_x hy _)))))
  refine wpQuiet_nil ?_
  intro _ hw'
  obtain ⟨x3, rfl⟩ := hw'
  go_wp2_with ((go_at_call 147; refine (ri32_c _ _ _).mono ?_; rintro e w1 ⟨rfl, ⟨x1, rfl⟩⟩))
  go_returns
  refine ⟨by rw [rbit3_is hx0 hx1 hy0 hy1], ?_⟩
  repeat' (first | exact Plus.refl _ | refine Plus.alloc ?_ _ | refine Plus.plus ?_ _ | refine Plus.drew ?_ | refine Plus.drewN ?_ _)

set_option maxHeartbeats 1000000 in
theorem rbit4_x (k n l m x y : Int) (hx : Hid (wordR k n = x)) (hy : Hid (wordR l m = y)) (hx0 : 0 ≤ x) (hx1 : x < 4294967296) (_hy0 : 0 ≤ y) (_hy1 : y < 4294967296) (w : World) :
    Calls Tryz.prog 88 #[.int .i64 4, .agg #[.int .i64 k, .int .i64 n], .agg #[.int .i64 l, .int .i64 m]] w fun e w' => e = .returned (.agg #[.int .i64 0, .int .i64 (bitN 4 x y)]) ∧ Plus w w' := by
  go_enter Tryz.func88, Tryz.ntmps88
  go_wp2_with fail
  refine wp_region_plus (by kernel_rfl) (by kernel_rfl) ?_
  repeat (go_big_quiet_step ((first | (go_at_call_of 146 (Value.agg #[.int .i64 k, .int .i64 n]); exact calls_plus (ru32_x hx _)) | (go_at_call_of 146 (Value.agg #[.int .i64 l, .int .i64 m]); exact calls_plus (ru32_x hy _)))))
  refine wpQuiet_nil ?_
  intro _ hw'
  obtain ⟨x3, rfl⟩ := hw'
  go_wp2_with ((go_at_call 147; refine (ri32_c _ _ _).mono ?_; rintro e w1 ⟨rfl, ⟨x1, rfl⟩⟩))
  go_returns
  refine ⟨by rw [rbit4_is hx0 hx1], ?_⟩
  repeat' (first | exact Plus.refl _ | refine Plus.alloc ?_ _ | refine Plus.plus ?_ _ | refine Plus.drew ?_ | refine Plus.drewN ?_ _)

set_option maxHeartbeats 1000000 in
theorem rbit5_x (k n l m x y : Int) (hx : Hid (wordR k n = x)) (hy : Hid (wordR l m = y)) (_hx0 : 0 ≤ x) (_hx1 : x < 4294967296) (_hy0 : 0 ≤ y) (_hy1 : y < 4294967296) (w : World) :
    Calls Tryz.prog 88 #[.int .i64 5, .agg #[.int .i64 k, .int .i64 n], .agg #[.int .i64 l, .int .i64 m]] w fun e w' => e = .returned (.agg #[.int .i64 0, .int .i64 (bitN 5 x y)]) ∧ Plus w w' := by
  go_enter Tryz.func88, Tryz.ntmps88
  go_wp2_with fail
  refine wp_region_plus (by kernel_rfl) (by kernel_rfl) ?_
  repeat (go_big_quiet_step ((first | (go_at_call_of 146 (Value.agg #[.int .i64 k, .int .i64 n]); exact calls_plus (ru32_x hx _)) | (go_at_call_of 146 (Value.agg #[.int .i64 l, .int .i64 m]); exact calls_plus (ru32_x hy _)))))
  refine wpQuiet_nil ?_
  intro _ hw'
  obtain ⟨x3, rfl⟩ := hw'
  go_wp2_with ((go_at_call 147; refine (ri32_c _ _ _).mono ?_; rintro e w1 ⟨rfl, ⟨x1, rfl⟩⟩))
  go_returns
  refine ⟨by rw [sg_i32, hx.out, bitN5], ?_⟩
  repeat' (first | exact Plus.refl _ | refine Plus.alloc ?_ _ | refine Plus.plus ?_ _ | refine Plus.drew ?_ | refine Plus.drewN ?_ _)

set_option maxHeartbeats 1000000 in
theorem rbit6_x (k n l m x y : Int) (hx : Hid (wordR k n = x)) (hy : Hid (wordR l m = y)) (_hx0 : 0 ≤ x) (_hx1 : x < 4294967296) (_hy0 : 0 ≤ y) (_hy1 : y < 4294967296) (w : World) :
    Calls Tryz.prog 88 #[.int .i64 6, .agg #[.int .i64 k, .int .i64 n], .agg #[.int .i64 l, .int .i64 m]] w fun e w' => e = .returned (.agg #[.int .i64 0, .int .i64 (bitN 6 x y)]) ∧ Plus w w' := by
  go_enter Tryz.func88, Tryz.ntmps88
  go_wp2_with fail
  refine wp_region_plus (by kernel_rfl) (by kernel_rfl) ?_
  repeat (go_big_quiet_step ((first | (go_at_call_of 146 (Value.agg #[.int .i64 k, .int .i64 n]); exact calls_plus (ru32_x hx _)) | (go_at_call_of 146 (Value.agg #[.int .i64 l, .int .i64 m]); exact calls_plus (ru32_x hy _)))))
  refine wpQuiet_nil ?_
  intro _ hw'
  obtain ⟨x3, rfl⟩ := hw'
  go_wp2_with ((go_at_call 147; refine (ri32_c _ _ _).mono ?_; rintro e w1 ⟨rfl, ⟨x1, rfl⟩⟩))
  go_returns
  refine ⟨by rw [bitN6], ?_⟩
  repeat' (first | exact Plus.refl _ | refine Plus.alloc ?_ _ | refine Plus.plus ?_ _ | refine Plus.drew ?_ | refine Plus.drewN ?_ _)

set_option maxHeartbeats 1000000 in
theorem rbit0_x (op k n l m x y : Int) (hx : Hid (wordR k n = x)) (hy : Hid (wordR l m = y)) (_hy0 : 0 ≤ y) (_hy1 : y < 4294967296) (o1 : (op == 1) = false) (o2 : (op == 2) = false) (o3 : (op == 3) = false) (o4 : (op == 4) = false) (o5 : (op == 5) = false) (o6 : (op == 6) = false) (w : World) :
    Calls Tryz.prog 88 #[.int .i64 op, .agg #[.int .i64 k, .int .i64 n], .agg #[.int .i64 l, .int .i64 m]] w fun e w' => e = .returned (.agg #[.int .i64 2, .int .i64 0]) ∧ Plus w w' := by
  go_enter Tryz.func88, Tryz.ntmps88
  go_wp2_with fail
  refine wp_region_plus (by kernel_rfl) (by kernel_rfl) ?_
  repeat (go_big_quiet_step ((first | (go_at_call_of 146 (Value.agg #[.int .i64 k, .int .i64 n]); exact calls_plus (ru32_x hx _)) | (go_at_call_of 146 (Value.agg #[.int .i64 l, .int .i64 m]); exact calls_plus (ru32_x hy _)))))
  refine wpQuiet_nil ?_
  intro _ hw'
  obtain ⟨x3, rfl⟩ := hw'
  go_wp2_with ((go_at_call 46; refine (rNaN_c _).mono ?_; rintro e w1 ⟨rfl, ⟨x1, rfl⟩⟩))
  go_returns
  refine ⟨rfl, ?_⟩
  repeat' (first | exact Plus.refl _ | refine Plus.alloc ?_ _ | refine Plus.plus ?_ _ | refine Plus.drew ?_ | refine Plus.drewN ?_ _)

theorem rbit_c (op k n l m : Int) (w : World) : Calls Tryz.prog 88 #[.int .i64 op, .agg #[.int .i64 k, .int .i64 n], .agg #[.int .i64 l, .int .i64 m]] w fun e w' => e = .returned (.agg #[.int .i64 (bitR op k n l m).k, .int .i64 (bitR op k n l m).n]) ∧ Plus w w' := by
  obtain ⟨a1, a2⟩ := word_bd k n
  obtain ⟨b1, b2⟩ := word_bd l m
  by_cases h : op = 1 ∨ op = 2 ∨ op = 3 ∨ op = 4 ∨ op = 5 ∨ op = 6
  · have e : bitR op k n l m = ⟨0, bitN op (wordR k n) (wordR l m)⟩ := by unfold bitR; rw [if_pos h]
    rw [e]
    dsimp only
    rcases h with rfl | rfl | rfl | rfl | rfl | rfl
    · exact rbit1_x k n l m _ _ rfl rfl a1 a2 b1 b2 w
    · exact rbit2_x k n l m _ _ rfl rfl a1 a2 b1 b2 w
    · exact rbit3_x k n l m _ _ rfl rfl a1 a2 b1 b2 w
    · exact rbit4_x k n l m _ _ rfl rfl a1 a2 b1 b2 w
    · exact rbit5_x k n l m _ _ rfl rfl a1 a2 b1 b2 w
    · exact rbit6_x k n l m _ _ rfl rfl a1 a2 b1 b2 w
  · have e : bitR op k n l m = ⟨2, 0⟩ := by unfold bitR; rw [if_neg h]
    rw [e]
    dsimp only
    simp only [not_or] at h
    obtain ⟨o1, o2, o3, o4, o5, o6⟩ := h
    exact rbit0_x op k n l m _ _ rfl rfl b1 b2 (beq_f o1) (beq_f o2) (beq_f o3) (beq_f o4) (beq_f o5) (beq_f o6) w

end Go.Proofs.YtakahpbondaidaaGreatDoor
