/- num's functions. -/
import Derived.WalkKit
import Derived.WalkSpells
import Derived.WalkLawsBesides
import Derived.Handy
import Derived.Deep.RegionHeld3
import Derived.Deep.DeepCutAuto
import Derived.Deep.QuietTactic
import Derived.BigQuiet
import Derived.Lib.Hide
import Derived.KernelRfl
import Derived.WalkMore
import Derived.Deep.LoopGhost
import Derived.Test.YtjojkogmbgppcaaC3
namespace Go.Proofs.Ytjojkogmbgppcaa
open Go.RowKit


/-- Is a number valid? -/
def mayN (k n : Int) : Bool := if k = 0 then decide (-9007199254740991 ≤ n) && decide (n ≤ 9007199254740991) else if k = 1 ∨ k = 2 ∨ k = 3 ∨ k = 4 then n == 0 else false
theorem mayN_0 (n : Int) : mayN 0 n = (decide (-9007199254740991 ≤ n) && decide (n ≤ 9007199254740991)) := if_pos rfl
theorem mayN_k {k : Int} (n : Int) (h : k = 1 ∨ k = 2 ∨ k = 3 ∨ k = 4) : mayN k n = (n == 0) := by
  unfold mayN
  rw [if_neg (by omega), if_pos h]
theorem mayN_no {k : Int} (n : Int) (h : ¬ (k = 0 ∨ k = 1 ∨ k = 2 ∨ k = 3 ∨ k = 4)) : mayN k n = false := by
  unfold mayN
  rw [if_neg (by omega), if_neg (by omega)]

set_option maxRecDepth 100000 in
set_option maxHeartbeats 2000000 in
theorem numMay_c (k n : Int) (w : World) : Calls Try.prog 70 #[.agg #[.int .i64 k, .int .i64 n]] w fun e w' => e = .returned (.bool (mayN k n)) ∧ Plus w w' := by
  have hk : k = 0 ∨ k = 1 ∨ k = 2 ∨ k = 3 ∨ k = 4 ∨ ((k == 0) = false ∧ (k == 1) = false ∧ (k == 2) = false ∧ (k == 3) = false ∧ (k == 4) = false) := by
    simp only [beq_eq_false_iff_ne]
    omega
  rcases hk with rfl | rfl | rfl | rfl | rfl | ⟨h0, h1, h2, h3, h4⟩
  · rw [mayN_0]
    by_cases a1 : -9007199254740991 ≤ n
    · have e1 : decide (-9007199254740991 ≤ n) = true := by simp; omega
      rw [e1, Bool.true_and]
      go_enter Try.func70, Try.ntmps70
      go_wp2_with fail
      go_ret
      exact ⟨rfl, (by repeat' (first | exact Plus.refl _ | refine Plus.alloc ?_ _ | refine Plus.plus ?_ _ | refine Plus.drew ?_ | refine Plus.drewN ?_ _))⟩
    · have e1 : decide (-9007199254740991 ≤ n) = false := by simp; omega
      rw [e1, Bool.false_and]
      go_enter Try.func70, Try.ntmps70
      go_wp2_with fail
      go_ret
      exact ⟨rfl, (by repeat' (first | exact Plus.refl _ | refine Plus.alloc ?_ _ | refine Plus.plus ?_ _ | refine Plus.drew ?_ | refine Plus.drewN ?_ _))⟩
  · rw [mayN_k n (by decide)]
    go_enter Try.func70, Try.ntmps70
    go_wp2_with fail
    go_ret
    exact ⟨rfl, (by repeat' (first | exact Plus.refl _ | refine Plus.alloc ?_ _ | refine Plus.plus ?_ _ | refine Plus.drew ?_ | refine Plus.drewN ?_ _))⟩
  · rw [mayN_k n (by decide)]
    go_enter Try.func70, Try.ntmps70
    go_wp2_with fail
    go_ret
    exact ⟨rfl, (by repeat' (first | exact Plus.refl _ | refine Plus.alloc ?_ _ | refine Plus.plus ?_ _ | refine Plus.drew ?_ | refine Plus.drewN ?_ _))⟩
  · rw [mayN_k n (by decide)]
    go_enter Try.func70, Try.ntmps70
    go_wp2_with fail
    go_ret
    exact ⟨rfl, (by repeat' (first | exact Plus.refl _ | refine Plus.alloc ?_ _ | refine Plus.plus ?_ _ | refine Plus.drew ?_ | refine Plus.drewN ?_ _))⟩
  · rw [mayN_k n (by decide)]
    go_enter Try.func70, Try.ntmps70
    go_wp2_with fail
    go_ret
    exact ⟨rfl, (by repeat' (first | exact Plus.refl _ | refine Plus.alloc ?_ _ | refine Plus.plus ?_ _ | refine Plus.drew ?_ | refine Plus.drewN ?_ _))⟩
  · rw [mayN_no n (by simp only [beq_eq_false_iff_ne] at h0 h1 h2 h3 h4; omega)]
    go_enter Try.func70, Try.ntmps70
    go_wp2_with fail
    go_ret
    exact ⟨rfl, (by repeat' (first | exact Plus.refl _ | refine Plus.alloc ?_ _ | refine Plus.plus ?_ _ | refine Plus.drew ?_ | refine Plus.drewN ?_ _))⟩

set_option maxRecDepth 100000 in
theorem nan_c (w : World) : Calls Try.prog 71 #[] w fun e w' => e = .returned (.agg #[.int .i64 2, .int .i64 0]) ∧ Plus w w' := by
  go_enter Try.func71, Try.ntmps71
  go_wp2_with fail
  go_returns
  exact ⟨rfl, (by repeat' (first | exact Plus.refl _ | refine Plus.alloc ?_ _ | refine Plus.plus ?_ _ | refine Plus.drew ?_ | refine Plus.drewN ?_ _))⟩

def vK (k n : Int) : Int := if mayN k n then k else 2
def vN (k n : Int) : Int := if mayN k n then n else 0
set_option maxRecDepth 100000 in
set_option maxHeartbeats 2000000 in
theorem numValid_c (k n : Int) (w : World) : Calls Try.prog 61 #[.agg #[.int .i64 k, .int .i64 n]] w fun e w' => e = .returned (.agg #[.int .i64 (vK k n), .int .i64 (vN k n)]) ∧ Plus w w' := by
  have hm := numMay_c k n
  by_cases hb : mayN k n = true
  · have e1 : vK k n = k := if_pos hb
    have e2 : vN k n = n := if_pos hb
    rw [hb] at hm
    rw [e1, e2]
    go_enter Try.func61, Try.ntmps61
    go_wp2_with fail
    with_reducible refine (hm _).mono ?_
    rintro e w1 ⟨rfl, ⟨x1, rfl⟩⟩
    go_wp2_with fail
    go_returns
    exact ⟨rfl, (by repeat' (first | exact Plus.refl _ | refine Plus.alloc ?_ _ | refine Plus.plus ?_ _ | refine Plus.drew ?_ | refine Plus.drewN ?_ _))⟩
  · have hb' : mayN k n = false := by simpa using hb
    have e1 : vK k n = 2 := if_neg hb
    have e2 : vN k n = 0 := if_neg hb
    rw [hb'] at hm
    rw [e1, e2]
    go_enter Try.func61, Try.ntmps61
    go_wp2_with fail
    with_reducible refine (hm _).mono ?_
    rintro e w1 ⟨rfl, ⟨x1, rfl⟩⟩
    go_wp2_with fail
    with_reducible refine (nan_c _).mono ?_
    rintro e w1 ⟨rfl, ⟨x2, rfl⟩⟩
    go_wp2_with fail
    go_returns
    exact ⟨rfl, (by repeat' (first | exact Plus.refl _ | refine Plus.alloc ?_ _ | refine Plus.plus ?_ _ | refine Plus.drew ?_ | refine Plus.drewN ?_ _))⟩

/-- The low 32 bits of a whole number. -/
def wN (k n : Int) : Nat := if vK k n = 0 then (vN k n % 4294967296).toNat else 0
theorem wN_lt (k n : Int) : wN k n < 4294967296 := by
  unfold wN
  split <;> omega
set_option maxRecDepth 100000 in
set_option maxHeartbeats 2000000 in
theorem numWord_c (k n : Int) (w : World) : Calls Try.prog 50 #[.agg #[.int .i64 k, .int .i64 n]] w fun e w' => e = .returned (.int .u32 ((wN k n : Nat) : Int)) ∧ Plus w w' := by
  have hv := numValid_c k n
  obtain ⟨a, ha⟩ : ∃ a, vK k n = a := ⟨_, rfl⟩
  obtain ⟨b, hb⟩ : ∃ b, vN k n = b := ⟨_, rfl⟩
  have hw : wN k n = if a = 0 then (b % 4294967296).toNat else 0 := by unfold wN; rw [ha, hb]
  rw [ha, hb] at hv
  rw [hw]
  clear ha hb hw
  by_cases h0 : a = 0
  · subst h0
    rw [if_pos rfl, show (((b % 4294967296).toNat : Nat) : Int) = b % 4294967296 by omega]
    go_enter Try.func50, Try.ntmps50
    go_wp2_with fail
    with_reducible refine (hv _).mono ?_
    rintro e w1 ⟨rfl, ⟨x1, rfl⟩⟩
    go_wp2_with fail
    go_ret
    exact ⟨rfl, (by repeat' (first | exact Plus.refl _ | refine Plus.alloc ?_ _ | refine Plus.plus ?_ _ | refine Plus.drew ?_ | refine Plus.drewN ?_ _))⟩
  · have h1 : (a != 0) = true := by simp [h0]
    rw [if_neg h0]
    go_enter Try.func50, Try.ntmps50
    go_wp2_with fail
    with_reducible refine (hv _).mono ?_
    rintro e w1 ⟨rfl, ⟨x1, rfl⟩⟩
    go_wp2_with fail
    go_ret
    exact ⟨rfl, (by repeat' (first | exact Plus.refl _ | refine Plus.alloc ?_ _ | refine Plus.plus ?_ _ | refine Plus.drew ?_ | refine Plus.drewN ?_ _))⟩
set_option maxRecDepth 100000 in
theorem uint32_c (k n : Int) (w : World) : Calls Try.prog 40 #[.agg #[.int .i64 k, .int .i64 n]] w fun e w' => e = .returned (.int .i64 ((wN k n : Nat) : Int)) ∧ Plus w w' := by
  have hv := numWord_c k n
  obtain ⟨a, ha⟩ : ∃ a, wN k n = a := ⟨_, rfl⟩
  have hl := wN_lt k n
  rw [ha] at hv hl ⊢
  have hl' : (a : Int) ≤ 4294967295 := by omega
  clear ha hl
  go_enter Try.func40, Try.ntmps40
  go_wp2_with fail
  with_reducible refine (hv _).mono ?_
  rintro e w1 ⟨rfl, ⟨x1, rfl⟩⟩
  go_wp2_with fail
  go_ret
  exact ⟨by simp, (by repeat' (first | exact Plus.refl _ | refine Plus.alloc ?_ _ | refine Plus.plus ?_ _ | refine Plus.drew ?_ | refine Plus.drewN ?_ _))⟩
end Go.Proofs.Ytjojkogmbgppcaa
