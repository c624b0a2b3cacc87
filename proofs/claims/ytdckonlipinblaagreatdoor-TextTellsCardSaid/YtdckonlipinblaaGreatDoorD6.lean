/- The document's Number and Key. -/
import Derived.IntWalk
import Derived.Test.YtdckonlipinblaaGreatDoorD5
namespace Go.Proofs.YtdckonlipinblaaGreatDoor
open Go.RowKit


theorem refUnits_n {A C : Option Addr} {xs ys : List Nat} {n c m d : Nat} {b : Bool} (h : Hid (decide (xs = ys) = b)) (w : World) (ha : Ar .u16 65536 w A xs n c) (hb : Ar .u16 65536 w C ys m d) :
    Calls Tryz.prog 15 #[.slice A n c, .slice C m d] w fun e w' => e = .returned (.bool b) ∧ Plus w w' := by
  have e := refUnits_c A C xs ys n c m d w ha hb
  rw [h.out] at e
  exact e
theorem rDigits_n {A : Option Addr} {xs : List Nat} {n c : Nat} {b : Bool} (h : Hid (dgs xs = b)) (w : World) (ha : Ar .u16 65536 w A xs n c) : Calls Tryz.prog 29 #[.slice A n c] w fun e w' => e = .returned (.bool b) ∧ w = w' := by
  have e := rDigits_c A xs n c w ha
  rw [h.out] at e
  exact e
theorem rNumeric_n {A : Option Addr} {xs : List Nat} {n c : Nat} {b : Bool} (h : Hid (numR xs = b)) (w : World) (ha : Ar .u16 65536 w A xs n c) : Calls Tryz.prog 31 #[.slice A n c, .string ⟨#[120, 88, 111, 79, 46, 43, 45, 95]⟩] w fun e w' => e = .returned (.bool b) ∧ w = w' := by
  have e := rNumeric_c A xs n c w ha
  rw [h.out] at e
  exact e
theorem rwhole_n {A : Option Addr} {xs : List Nat} {n c : Nat} {z : Int} (h : Hid (xs.all dgB = true ∧ whI (vd xs) = z)) (w : World) (ha : Ar .u16 65536 w A xs n c) : Calls Tryz.prog 30 #[.slice A n c] w fun e w' => e = .returned (.int .i64 z) ∧ w = w' := by
  have e := rwhole_c A xs n c w ha h.out.1
  rw [h.out.2] at e
  exact e
theorem rneg_n {k n p q : Int} (h : Hid ((negR k n).k = p ∧ (negR k n).n = q)) (w : World) : Calls Tryz.prog 32 #[.agg #[.int .i64 k, .int .i64 n]] w fun e w' => e = .returned (.agg #[.int .i64 p, .int .i64 q]) ∧ Plus w w' := by
  have e := rneg_c k n w
  rw [h.out.1, h.out.2] at e
  exact e
def infN : List Nat := [73, 110, 102, 105, 110, 105, 116, 121]
/-- What Key tells. -/
def kyB (xs : List Nat) : Bool := dgs xs && decide (xs.length ≤ 10) && !(decide (xs.getD 0 0 = 48) && decide (1 < xs.length)) && decide (vd xs ≤ 4294967294)
def kyI (xs : List Nat) : Int := if kyB xs then vd xs else 0
theorem vd_lt : ∀ (xs : List Nat), xs.all dgB = true → ∀ m, xs.foldl (fun n x => 10 * n + (x - 48)) m < (m + 1) * 10 ^ xs.length
  | [], _, m => by simp
  | x :: xs, h, m => by
    rw [List.all_cons, Bool.and_eq_true] at h
    have h1 := h.1
    unfold dgB at h1
    simp at h1
    have ih := vd_lt xs h.2 (10 * m + (x - 48))
    rw [List.foldl_cons, List.length_cons, Nat.pow_succ]
    have e : (10 * m + (x - 48) + 1) * 10 ^ xs.length ≤ (m + 1) * (10 ^ xs.length * 10) := by
      rw [Nat.mul_comm (10 ^ xs.length) 10, ← Nat.mul_assoc]
      exact Nat.mul_le_mul_right _ (by omega)
    omega
theorem vd_ten {xs : List Nat} (h : xs.all dgB = true) (hl : xs.length ≤ 10) : vd xs < 10000000000 := by
  have e := vd_lt xs h 0
  have e2 : 10 ^ xs.length ≤ 10 ^ 10 := Nat.pow_le_pow_right (by decide) hl
  unfold vd
  rw [Nat.zero_add, Nat.one_mul] at e
  exact Nat.lt_of_lt_of_le e e2
set_option maxRecDepth 100000 in
set_option maxHeartbeats 2000000 in
theorem rKey_c (A : Option Addr) (xs : List Nat) (n c : Nat) (w : World) (ha : Ar .u16 65536 w A xs n c) :
    Calls Tryz.prog 10 #[.slice A n c] w fun e w' => e = .returned (.tuple #[.int .i64 (kyI xs), .bool (kyB xs)]) ∧ w = w' := by
  obtain rfl := ha.len
  have HA := Lib.hid ha
  obtain ⟨hrd, hlen, hcap, hmax, hbd⟩ := ha
  clear hlen
  obtain ⟨dg, hdg⟩ : ∃ b, dgs xs = b := ⟨_, rfl⟩
  have HD := Lib.hid hdg
  have no : kyB xs = false → kyI xs = 0 := fun h => by unfold kyI; rw [h]; rfl
  cases dg
  · have e1 : kyB xs = false := by unfold kyB; rw [hdg]; rfl
    rw [no e1, e1]
    clear no e1 hdg
    go_enter Tryz.func10, Tryz.ntmps10
    go_wp2_with (go_at_call 29; (with_reducible refine (rDigits_n HD _ HA.out).mono ?_); rintro e w1 ⟨rfl, rfl⟩)
    go_returns
    exact ⟨rfl, rfl⟩
  have hall : xs.all dgB = true := by unfold dgs at hdg; rw [Bool.and_eq_true] at hdg; exact hdg.1
  have hpos : 0 < xs.length := by unfold dgs at hdg; rw [Bool.and_eq_true] at hdg; simpa using hdg.2
  by_cases h10 : xs.length ≤ 10
  · obtain ⟨g, o, rfl, hg, hat⟩ := hrd.at_ hpos
    have hcell := hat 0 hpos
    have hadd := add_addr g o 0
    obtain ⟨v, hv⟩ : ∃ v, xs.getD 0 0 = v := ⟨_, rfl⟩
    rw [hv] at hcell
    simp only [Nat.add_zero] at hcell hadd
    by_cases h48 : v = 48 ∧ 1 < xs.length
    · obtain ⟨rfl, h1⟩ := h48
      have e1 : kyB xs = false := by unfold kyB; rw [hv]; simp [h1]
      rw [no e1, e1]
      clear no e1 hdg hall hat hv
      have d1 : decide ((xs.length : Int) > 10) = false := by simp; omega
      have d2 : decide ((xs.length : Int) > 1) = true := by simp; omega
      go_enter Tryz.func10, Tryz.ntmps10
      go_wp2_with (go_at_call 29; (with_reducible refine (rDigits_n HD _ HA.out).mono ?_); rintro e w1 ⟨rfl, rfl⟩)
      go_returns
      exact ⟨rfl, rfl⟩
    · have hlt := vd_ten hall h10
      have hw : whI (vd xs) = (vd xs : Int) := by unfold whI; rw [if_pos (by omega)]
      have e0 : kyB xs = decide (vd xs ≤ 4294967294) := by
        unfold kyB
        rw [hdg, hv]
        have : (decide (v = 48) && decide (1 < xs.length)) = false := by
          rw [Bool.eq_false_iff]
          intro q
          rw [Bool.and_eq_true] at q
          exact h48 ⟨by simpa using q.1, by simpa using q.2⟩
        rw [this]
        simp [h10]
      obtain ⟨z, hz⟩ : ∃ z : Nat, vd xs = z := ⟨_, rfl⟩
      have hn48 : v ≠ 48 ∨ ¬ 1 < xs.length := by
        by_cases q : v = 48
        · right; intro q2; exact h48 ⟨q, q2⟩
        · left; exact q
      have HK : Hid (kyB xs = decide (z ≤ 4294967294) ∧ kyI xs = if z ≤ 4294967294 then (z : Int) else 0) := Lib.hid (by
        refine ⟨by rw [e0, hz], ?_⟩
        unfold kyI
        rw [e0, hz]
        by_cases q : z ≤ 4294967294
        · rw [if_pos q, if_pos (by simpa using q)]
        · rw [if_neg q, if_neg (by simpa using q)])
      have HW : Hid (xs.all dgB = true ∧ whI (vd xs) = (z : Int)) := Lib.hid ⟨hall, by rw [hw, hz]⟩
      rw [hz] at hlt
      clear no e0 hdg hall hat hv hw h48 hz
      have d1 : decide ((xs.length : Int) > 10) = false := by simp; omega
      rcases hn48 with q | q
      all_goals
        first
          | (have d2 : ((v : Int) == 48) = false := by simp; omega)
          | (have d2 : decide ((xs.length : Int) > 1) = false := by simp; omega)
        by_cases hk : z ≤ 4294967294
        · have HK2 : Hid (kyB xs = true ∧ kyI xs = (z : Int)) := Lib.hid ⟨by rw [HK.out.1]; simpa using hk, by rw [HK.out.2, if_pos hk]⟩
          have d3 : decide ((z : Int) > 4294967294) = false := by simp; omega
          rw [HK2.out.1, HK2.out.2]
          go_enter Tryz.func10, Tryz.ntmps10
          go_wp2_with (first
            | (go_at_call 29; (with_reducible refine (rDigits_n HD _ HA.out).mono ?_); rintro e w1 ⟨rfl, rfl⟩)
            | (go_at_call 30; (with_reducible refine (rwhole_n HW _ HA.out).mono ?_); rintro e w1 ⟨rfl, rfl⟩))
          all_goals go_returns
          all_goals exact ⟨rfl, rfl⟩
        · have HK2 : Hid (kyB xs = false ∧ kyI xs = 0) := Lib.hid ⟨by rw [HK.out.1]; simpa using hk, by rw [HK.out.2, if_neg hk]⟩
          have d3 : decide ((z : Int) > 4294967294) = true := by simp; omega
          rw [HK2.out.1, HK2.out.2]
          go_enter Tryz.func10, Tryz.ntmps10
          go_wp2_with (first
            | (go_at_call 29; (with_reducible refine (rDigits_n HD _ HA.out).mono ?_); rintro e w1 ⟨rfl, rfl⟩)
            | (go_at_call 30; (with_reducible refine (rwhole_n HW _ HA.out).mono ?_); rintro e w1 ⟨rfl, rfl⟩))
          all_goals go_returns
          all_goals exact ⟨rfl, rfl⟩
  · have e1 : kyB xs = false := by unfold kyB; simp [h10]
    rw [no e1, e1]
    clear no e1 hdg hall
    have d1 : decide ((xs.length : Int) > 10) = true := by simp; omega
    go_enter Tryz.func10, Tryz.ntmps10
    go_wp2_with (go_at_call 29; (with_reducible refine (rDigits_n HD _ HA.out).mono ?_); rintro e w1 ⟨rfl, rfl⟩)
    go_returns
    exact ⟨rfl, rfl⟩
end Go.Proofs.YtdckonlipinblaaGreatDoor
