/- The walk of BigCuts2. -/
import Derived.Test.YthaokkmbghgopaaC28
namespace Go.Proofs.Ythaokkmbghgopaa
open Go.RowKit


set_option maxRecDepth 100000 in
set_option maxHeartbeats 16000000 in
theorem cuts2_h (an : Bool) (A : Option Addr) (xs : List Nat) (n c : Nat) (m z : Int) (a x y g i j l r : Int) (b1 b2 b3 b4 b5 b6 b7 : Bool) (u1 u2 u3 u4 u5 u6 u7 : List Nat) (w : World) (ha : Hid (Arg w A xs n c)) (ga : Hid (bigI an xs = a)) (f1 : Hid (decide (n ≤ 40) = true)) (m0 : 0 ≤ m) (mz : m ≤ z) (z1 : z ≤ 256)
    (h1 : Hid (AsUN z a x 0 b1 u1)) (g1 : Hid (bigI b1 u1 = x)) (h2 : Hid (AsUN m x y 0 b2 u2)) (g2 : Hid (bigI b2 u2 = y)) (h3 : Hid (AsUN m a g 0 b3 u3)) (g3 : Hid (bigI b3 u3 = g)) (h4 : Hid (AsIN z a i 0 b4 u4)) (g4 : Hid (bigI b4 u4 = i)) (h5 : Hid (AsIN m i j 0 b5 u5)) (g5 : Hid (bigI b5 u5 = j)) (h6 : Hid (AsIN m a l 0 b6 u6)) (g6 : Hid (bigI b6 u6 = l)) (h7 : Hid (AsUN z x r 0 b7 u7)) (g7 : Hid (bigI b7 u7 = r))
    (v1 : Hid (decide (y = g) = true)) (v2 : Hid (decide (j = l) = true)) (v3 : Hid (decide (r = x) = true)) :
    Calls Try.prog 12 #[.agg #[.bool an, .slice A n c], .int .i64 m, .int .i64 z] w fun e w' => e = .returned (.bool true) ∧ Plus w w' := by
  go_enter Try.func12, Try.ntmps12
  go_wp2_with fail
  refine (first_c _).mono ?_
  rintro e w1 ⟨rfl, ⟨y0, rfl⟩⟩
  go_wp2_with fail
  refine (few_c f1 _).mono ?_
  rintro e w1 ⟨rfl, ⟨y1, rfl⟩⟩
  go_wp2_with fail
  refine (asUint_n ga h1 _ (ha.out.plus (by repeat' (first | exact Plus.refl _ | refine Plus.alloc ?_ _ | refine Plus.plus ?_ _ | refine Plus.drew ?_ | refine Plus.drewN ?_ _)))).mono ?_
  rintro e w1 ⟨A1, c1, rfl, a1, ⟨x1, rfl⟩⟩
  replace a1 := Lib.hid a1
  go_wp2_with fail
  refine (asUint_n g1 h2 _ (a1.out.plus (by repeat' (first | exact Plus.refl _ | refine Plus.alloc ?_ _ | refine Plus.plus ?_ _ | refine Plus.drew ?_ | refine Plus.drewN ?_ _)))).mono ?_
  rintro e w1 ⟨A2, c2, rfl, a2, ⟨x2, rfl⟩⟩
  replace a2 := Lib.hid a2
  go_wp2_with fail
  refine (asUint_n ga h3 _ (ha.out.plus (by repeat' (first | exact Plus.refl _ | refine Plus.alloc ?_ _ | refine Plus.plus ?_ _ | refine Plus.drew ?_ | refine Plus.drewN ?_ _)))).mono ?_
  rintro e w1 ⟨A3, c3, rfl, a3, ⟨x3, rfl⟩⟩
  replace a3 := Lib.hid a3
  go_wp2_with fail
  refine (asInt_n ga h4 _ (ha.out.plus (by repeat' (first | exact Plus.refl _ | refine Plus.alloc ?_ _ | refine Plus.plus ?_ _ | refine Plus.drew ?_ | refine Plus.drewN ?_ _)))).mono ?_
  rintro e w1 ⟨A4, c4, rfl, a4, ⟨x4, rfl⟩⟩
  replace a4 := Lib.hid a4
  go_wp2_with fail
  refine (asInt_n g4 h5 _ (a4.out.plus (by repeat' (first | exact Plus.refl _ | refine Plus.alloc ?_ _ | refine Plus.plus ?_ _ | refine Plus.drew ?_ | refine Plus.drewN ?_ _)))).mono ?_
  rintro e w1 ⟨A5, c5, rfl, a5, ⟨x5, rfl⟩⟩
  replace a5 := Lib.hid a5
  go_wp2_with fail
  refine (asInt_n ga h6 _ (ha.out.plus (by repeat' (first | exact Plus.refl _ | refine Plus.alloc ?_ _ | refine Plus.plus ?_ _ | refine Plus.drew ?_ | refine Plus.drewN ?_ _)))).mono ?_
  rintro e w1 ⟨A6, c6, rfl, a6, ⟨x6, rfl⟩⟩
  replace a6 := Lib.hid a6
  go_wp2_with fail
  refine (asUint_n g1 h7 _ (a1.out.plus (by repeat' (first | exact Plus.refl _ | refine Plus.alloc ?_ _ | refine Plus.plus ?_ _ | refine Plus.drew ?_ | refine Plus.drewN ?_ _)))).mono ?_
  rintro e w1 ⟨A7, c7, rfl, a7, ⟨x7, rfl⟩⟩
  replace a7 := Lib.hid a7
  go_wp2_with fail
  refine (first_c _).mono ?_
  rintro e w1 ⟨rfl, ⟨y2, rfl⟩⟩
  go_wp2_with fail
  refine (same_n g2 g3 v1 _ (a2.out.plus (by repeat' (first | exact Plus.refl _ | refine Plus.alloc ?_ _ | refine Plus.plus ?_ _ | refine Plus.drew ?_ | refine Plus.drewN ?_ _))) (a3.out.plus (by repeat' (first | exact Plus.refl _ | refine Plus.alloc ?_ _ | refine Plus.plus ?_ _ | refine Plus.drew ?_ | refine Plus.drewN ?_ _)))).mono ?_
  rintro e w1 ⟨rfl, ⟨y3, rfl⟩⟩
  go_wp2_with fail
  refine (same_n g5 g6 v2 _ (a5.out.plus (by repeat' (first | exact Plus.refl _ | refine Plus.alloc ?_ _ | refine Plus.plus ?_ _ | refine Plus.drew ?_ | refine Plus.drewN ?_ _))) (a6.out.plus (by repeat' (first | exact Plus.refl _ | refine Plus.alloc ?_ _ | refine Plus.plus ?_ _ | refine Plus.drew ?_ | refine Plus.drewN ?_ _)))).mono ?_
  rintro e w1 ⟨rfl, ⟨y4, rfl⟩⟩
  go_wp2_with fail
  refine (same_n g7 g1 v3 _ (a7.out.plus (by repeat' (first | exact Plus.refl _ | refine Plus.alloc ?_ _ | refine Plus.plus ?_ _ | refine Plus.drew ?_ | refine Plus.drewN ?_ _))) (a1.out.plus (by repeat' (first | exact Plus.refl _ | refine Plus.alloc ?_ _ | refine Plus.plus ?_ _ | refine Plus.drew ?_ | refine Plus.drewN ?_ _)))).mono ?_
  rintro e w1 ⟨rfl, ⟨y5, rfl⟩⟩
  go_wp2_with fail
  go_ret
  exact ⟨rfl, (by repeat' (first | exact Plus.refl _ | refine Plus.alloc ?_ _ | refine Plus.plus ?_ _ | refine Plus.drew ?_ | refine Plus.drewN ?_ _))⟩

theorem nm_mod (a z : Int) (h0 : 0 ≤ z) (h1 : z ≤ 256) : (a % 2 ^ z.toNat).natAbs < B ^ 8 := by
  have ep : ((2 ^ z.toNat : Nat) : Int) = (2 : Int) ^ z.toNat := by rw [Int.natCast_pow]; rfl
  have hp : (0 : Int) < 2 ^ z.toNat := by rw [← ep]; exact Int.ofNat_lt.2 (Nat.two_pow_pos _)
  have r0 := Int.emod_nonneg a (Int.ne_of_gt hp)
  have r1 := Int.emod_lt_of_pos a hp
  have hB : 2 ^ z.toNat ≤ B ^ 8 := by rw [pow_bits]; exact Nat.pow_le_pow_right (by decide) (by omega)
  omega
theorem nm_asI (a z : Int) (h0 : 0 ≤ z) (h1 : z ≤ 256) : (asI z a).natAbs < B ^ 8 := by
  have ep : ((2 ^ z.toNat : Nat) : Int) = (2 : Int) ^ z.toNat := by rw [Int.natCast_pow]; rfl
  have hp : (0 : Int) < 2 ^ z.toNat := by rw [← ep]; exact Int.ofNat_lt.2 (Nat.two_pow_pos _)
  have r0 := Int.emod_nonneg a (Int.ne_of_gt hp)
  have r1 := Int.emod_lt_of_pos a hp
  have hB : 2 ^ z.toNat ≤ B ^ 8 := by rw [pow_bits]; exact Nat.pow_le_pow_right (by decide) (by omega)
  unfold asI asIntR
  split
  · omega
  · rename_i h
    have hk : z.toNat ≠ 0 := fun e => h (.inl e)
    have ep1 : ((2 ^ (z.toNat - 1) : Nat) : Int) = (2 : Int) ^ (z.toNat - 1) := by rw [Int.natCast_pow]; rfl
    have hpos := Nat.two_pow_pos (z.toNat - 1)
    have : ¬ a % 2 ^ z.toNat < 2 ^ (z.toNat - 1) := fun e => h (.inr e)
    omega
theorem mod_mod (a : Int) (k j : Nat) (h : j ≤ k) : (a % 2 ^ k) % 2 ^ j = a % 2 ^ j := by
  apply Int.emod_emod_of_dvd
  refine ⟨2 ^ (k - j), ?_⟩
  rw [← Int.pow_add]
  congr 1
  omega
theorem asIntR_mod (a : Int) (k j : Nat) (h : j ≤ k) : asIntR k a % 2 ^ j = a % 2 ^ j := by
  unfold asIntR
  split
  · exact mod_mod a k j h
  · have e : (2 : Int) ^ k = 2 ^ j * 2 ^ (k - j) := by
      rw [← Int.pow_add]
      congr 1
      omega
    have e2 : a % 2 ^ k - 2 ^ k = a % 2 ^ k + 2 ^ j * (-(2 ^ (k - j))) := by
      rw [Int.mul_neg, ← e]; omega
    rw [e2, Int.add_mul_emod_self_left]
    exact mod_mod a k j h
theorem asIntR_of {a b : Int} {k : Nat} (h : a % 2 ^ k = b % 2 ^ k) : asIntR k a = asIntR k b := by unfold asIntR; rw [h]

set_option maxRecDepth 100000 in
set_option maxHeartbeats 4000000 in
theorem cuts2_no (an : Bool) (A : Option Addr) (n c : Nat) (m z : Int) (w : World) (hf : ¬ (n ≤ 40 ∧ 0 ≤ m ∧ m ≤ z ∧ z ≤ 256)) :
    Calls Try.prog 12 #[.agg #[.bool an, .slice A n c], .int .i64 m, .int .i64 z] w fun e w' => e = .returned (.bool true) ∧ Plus w w' := by
  obtain ⟨v1, e1⟩ : ∃ v, decide (n ≤ 40) = v := ⟨_, rfl⟩
  have E1 := Lib.hid e1
  cases v1
  · clear e1 hf
    go_enter Try.func12, Try.ntmps12
    go_wp2_with fail
    refine (first_c _).mono ?_
    rintro e w1 ⟨rfl, ⟨y0, rfl⟩⟩
    go_wp2_with fail
    refine (few_c E1 _).mono ?_
    rintro e w1 ⟨rfl, ⟨y1, rfl⟩⟩
    go_wp2_with fail
    refine (first_c _).mono ?_
    rintro e w1 ⟨rfl, ⟨y2, rfl⟩⟩
    go_wp2_with fail
    go_ret
    exact ⟨rfl, (by repeat' (first | exact Plus.refl _ | refine Plus.alloc ?_ _ | refine Plus.plus ?_ _ | refine Plus.drew ?_ | refine Plus.drewN ?_ _))⟩
  · have hn : n ≤ 40 := of_decide_eq_true e1
    have hc : m < 0 ∨ (0 ≤ m ∧ z < m) ∨ (0 ≤ m ∧ m ≤ z ∧ 256 < z) := by omega
    clear hf hn e1
    rcases hc with t1 | ⟨t1, t2⟩ | ⟨t1, t2, t3⟩
    all_goals
      go_enter Try.func12, Try.ntmps12
      go_wp2_with fail
      refine (first_c _).mono ?_
      rintro e w1 ⟨rfl, ⟨y0, rfl⟩⟩
      go_wp2_with fail
      refine (few_c E1 _).mono ?_
      rintro e w1 ⟨rfl, ⟨y1, rfl⟩⟩
      go_wp2_with fail
      refine (first_c _).mono ?_
      rintro e w1 ⟨rfl, ⟨y2, rfl⟩⟩
      go_wp2_with fail
      go_ret
      exact ⟨rfl, (by repeat' (first | exact Plus.refl _ | refine Plus.alloc ?_ _ | refine Plus.plus ?_ _ | refine Plus.drew ?_ | refine Plus.drewN ?_ _))⟩

theorem cuts2_w (an : Bool) (A : Option Addr) (xs : List Nat) (n c : Nat) (m z : Int) (w : World) (ha : Raw w A xs n c) :
    Calls Try.prog 12 #[.agg #[.bool an, .slice A n c], .int .i64 m, .int .i64 z] w fun e w' => e = .returned (.bool true) ∧ Plus w w' := by
  by_cases hf : n ≤ 40 ∧ 0 ≤ m ∧ m ≤ z ∧ z ≤ 256
  · obtain ⟨f1, f2, f3, f4⟩ := hf
    obtain ⟨a, ga⟩ : ∃ a, bigI an xs = a := ⟨_, rfl⟩
    have m1 := Nm.mk' (nm_mod a z (by omega) (by omega))
    have m2 := Nm.mk' (nm_mod (a % 2 ^ z.toNat) m (by omega) (by omega))
    have m3 := Nm.mk' (nm_mod a m (by omega) (by omega))
    have m4 := Nm.mk' (nm_asI a z (by omega) (by omega))
    have m5 := Nm.mk' (nm_asI (asI z a) m (by omega) (by omega))
    have m6 := Nm.mk' (nm_asI a m (by omega) (by omega))
    have m7 := Nm.mk' (nm_mod (a % 2 ^ z.toNat) z (by omega) (by omega))
    refine cuts2_h an A xs n c m z a _ _ _ _ _ _ _ _ _ _ _ _ _ _ _ _ _ _ _ _ _ w (Lib.hid (ha.arg f1)) (Lib.hid ga) (Lib.hid (by simpa using f1)) f2 f3 f4
      (Lib.hid ⟨m1, .inl ⟨by omega, by omega, rfl, rfl⟩⟩) (Lib.hid m1.val) (Lib.hid ⟨m2, .inl ⟨by omega, by omega, rfl, rfl⟩⟩) (Lib.hid m2.val) (Lib.hid ⟨m3, .inl ⟨by omega, by omega, rfl, rfl⟩⟩) (Lib.hid m3.val)
      (Lib.hid ⟨m4, .inl ⟨by omega, by omega, rfl, rfl⟩⟩) (Lib.hid m4.val) (Lib.hid ⟨m5, .inl ⟨by omega, by omega, rfl, rfl⟩⟩) (Lib.hid m5.val) (Lib.hid ⟨m6, .inl ⟨by omega, by omega, rfl, rfl⟩⟩) (Lib.hid m6.val) (Lib.hid ⟨m7, .inl ⟨by omega, by omega, rfl, rfl⟩⟩) (Lib.hid m7.val)
      (Lib.hid (decide_eq_true ?_)) (Lib.hid (decide_eq_true ?_)) (Lib.hid (decide_eq_true ?_))
    · exact mod_mod a _ _ (by omega)
    · unfold asI
      exact asIntR_of (asIntR_mod a _ _ (by omega))
    · exact mod_mod a _ _ (Nat.le_refl _)
  · exact cuts2_no an A n c m z w hf
end Go.Proofs.Ythaokkmbghgopaa
