/- Words of bits: plain facts. -/
import Derived.WalkKit
import Derived.Lib.TrailingZeros
import Derived.Laws.Bits64b
namespace Go.Proofs.YtmfdlcicbiincaaDoor
open Go.RowKit

/-- The number whose first k bits are s. -/
def bitsN (s : Nat → Bool) : Nat → Nat
  | 0 => 0
  | k + 1 => bitsN s k ||| (if s k then 2 ^ k else 0)
theorem bitsN_test (s : Nat → Bool) (j : Nat) : ∀ k, (bitsN s k).testBit j = (decide (j < k) && s j)
  | 0 => by simp [bitsN]
  | k + 1 => by
    unfold bitsN
    rw [Nat.testBit_or, bitsN_test s j k]
    by_cases hs : s k
    · rw [if_pos hs, Nat.testBit_two_pow]
      by_cases h : k = j
      · subst h; simp [hs]
      · have e1 : decide (j < k + 1) = decide (j < k) := by simp only [decide_eq_decide]; omega
        simp [h, e1]
    · rw [if_neg hs]
      by_cases h : k = j
      · subst h; simp [hs]
      · have e1 : decide (j < k + 1) = decide (j < k) := by simp only [decide_eq_decide]; omega
        simp [e1]
theorem bitsN_lt (s : Nat → Bool) : ∀ k, bitsN s k < 2 ^ k
  | 0 => by simp [bitsN]
  | k + 1 => by
    unfold bitsN
    have h := bitsN_lt s k
    refine Nat.or_lt_two_pow (by rw [Nat.pow_succ]; omega) ?_
    split
    · rw [Nat.pow_succ]; have := Nat.two_pow_pos k; omega
    · exact Nat.two_pow_pos _
theorem bitsN_ext {s t : Nat → Bool} {k : Nat} (h : ∀ j, j < k → s j = t j) : bitsN s k = bitsN t k := by
  apply Nat.eq_of_testBit_eq
  intro i
  rw [bitsN_test, bitsN_test]
  by_cases hi : i < k
  · simp [hi, h i hi]
  · simp [hi]
/-- Word i of the set s. -/
def W64 (s : Nat → Bool) (i : Nat) : Nat := bitsN (fun j => s (64 * i + j)) 64
theorem W64_lt (s : Nat → Bool) (i : Nat) : W64 s i < 18446744073709551616 := bitsN_lt _ 64
theorem W64_none (i : Nat) : W64 (fun _ => false) i = 0 := by
  apply Nat.eq_of_testBit_eq
  intro j
  unfold W64
  rw [bitsN_test]
  simp
theorem W64_ext {s t : Nat → Bool} {i : Nat} (h : ∀ j, j < 64 → s (64 * i + j) = t (64 * i + j)) : W64 s i = W64 t i := bitsN_ext h
/-- b more. -/
def wth (s : Nat → Bool) (b : Nat) : Nat → Bool := fun j => s j || j == b
def uni (s t : Nat → Bool) : Nat → Bool := fun j => s j || t j
theorem W64_or (s t : Nat → Bool) (i : Nat) : W64 s i ||| W64 t i = W64 (uni s t) i := by
  apply Nat.eq_of_testBit_eq
  intro j
  unfold W64 uni
  rw [Nat.testBit_or, bitsN_test, bitsN_test, bitsN_test]
  cases decide (j < 64) <;> simp
theorem W64_wth (s : Nat → Bool) (b : Nat) : W64 s (b / 64) ||| 2 ^ (b % 64) = W64 (wth s b) (b / 64) := by
  apply Nat.eq_of_testBit_eq
  intro j
  unfold W64 wth
  rw [Nat.testBit_or, bitsN_test, bitsN_test, Nat.testBit_two_pow]
  have hb : b % 64 < 64 := Nat.mod_lt _ (by omega)
  by_cases hj : j < 64
  · by_cases h : b % 64 = j
    · have e1 : (64 * (b / 64) + j == b) = true := by simp; omega
      simp [hj, h, e1]
    · have e1 : (64 * (b / 64) + j == b) = false := by simp; omega
      simp [hj, h, e1]
  · have h : b % 64 ≠ j := by omega
    simp [hj, h]
theorem W64_other (s : Nat → Bool) {b i : Nat} (h : i ≠ b / 64) : W64 (wth s b) i = W64 s i :=
  W64_ext fun j hj => by unfold wth; have e1 : (64 * i + j == b) = false := by (simp; omega)
                         simp [e1]
theorem W64_has (s : Nat → Bool) (b : Nat) : W64 s (b / 64) / 2 ^ (b % 64) &&& 1 = (if s b then 1 else 0) := by
  have h : (W64 s (b / 64)).testBit (b % 64) = s b := by
    unfold W64
    rw [bitsN_test]
    have hb : b % 64 < 64 := Nat.mod_lt _ (by omega)
    have e1 : 64 * (b / 64) + b % 64 = b := Nat.div_add_mod b 64
    simp [hb, e1]
  rw [Nat.and_one_is_mod, ← Nat.shiftRight_eq_div_pow]
  unfold Nat.testBit at h
  rw [Nat.and_comm, Nat.and_one_is_mod] at h
  cases hs : s b <;> rw [hs] at h <;> simp at h ⊢ <;> omega

/-- A number's lowest bit: k. -/
def Lowest (x k : Nat) : Prop := x.testBit k = true ∧ ∀ i, i < k → x.testBit i = false
theorem lowest_pred : ∀ (k x : Nat), Lowest x k → ∀ j, (x - 1).testBit j = if j < k then true else if j = k then false else x.testBit j
  | 0, x, h, j => by
    have h0 := h.1
    rw [Nat.testBit_zero] at h0
    have hx : x % 2 = 1 := by simpa using h0
    cases j with
    | zero => simp [Nat.testBit_zero]; omega
    | succ j =>
      rw [Nat.testBit_succ, Nat.testBit_succ]
      have e1 : (x - 1) / 2 = x / 2 := by omega
      simp [e1]
  | k + 1, x, h, j => by
    have h0 := h.2 0 (by omega)
    rw [Nat.testBit_zero] at h0
    have hx : x % 2 = 0 := by
      have : ¬ x % 2 = 1 := by simpa using h0
      omega
    have hp : Lowest (x / 2) k := ⟨by rw [← Nat.testBit_succ]; exact h.1, fun i hi => by rw [← Nat.testBit_succ]; exact h.2 (i + 1) (by omega)⟩
    have hpos : 0 < x / 2 := by
      apply Nat.pos_of_ne_zero
      intro e
      have := hp.1
      rw [e] at this
      simp at this
    cases j with
    | zero => simp [Nat.testBit_zero]; omega
    | succ j =>
      rw [Nat.testBit_succ, Nat.testBit_succ]
      have e1 : (x - 1) / 2 = x / 2 - 1 := by omega
      rw [e1, lowest_pred k (x / 2) hp j]
      simp
theorem lowest_and {x k : Nat} (h : Lowest x k) (j : Nat) : (x &&& (x - 1)).testBit j = (x.testBit j && decide (j ≠ k)) := by
  rw [Nat.testBit_and, lowest_pred k x h j]
  by_cases h1 : j < k
  · simp [h1, h.2 j h1]
  · by_cases h2 : j = k
    · subst h2; simp
    · simp [h1, h2]
theorem ctz_lowest {x : Nat} (h0 : x ≠ 0) (hx : x < 18446744073709551616) : Lowest x (Lib.ctz 64 x) ∧ Lib.ctz 64 x < 64 := by
  unfold Lib.ctz
  rw [if_neg h0]
  obtain ⟨m, hm, hk⟩ := Lib.ctzFrom_spec 64 x (by omega) hx
  refine ⟨⟨?_, fun i hi => ?_⟩, hk⟩
  · have e1 : (2 ^ Lib.ctzFrom 64 x * (2 * m + 1)).testBit (Lib.ctzFrom 64 x) = true := by
      rw [Nat.mul_comm, Nat.testBit_mul_two_pow]
      simp [Nat.testBit_zero]
    rw [← hm] at e1
    exact e1
  · have e1 : (2 ^ Lib.ctzFrom 64 x * (2 * m + 1)).testBit i = false := by
      rw [Nat.mul_comm, Nat.testBit_mul_two_pow]
      simp
      omega
    rw [← hm] at e1
    exact e1
/-- The members of s below n, in their order. -/
def mem (s : Nat → Bool) (n : Nat) : List Nat := (List.range n).filter s
theorem mem_succ (s : Nat → Bool) (n : Nat) : mem s (n + 1) = mem s n ++ (if s n then [n] else []) := by
  unfold mem
  rw [List.range_succ, List.filter_append]
  congr 1
  cases h : s n <;> simp [h]
theorem mem_gap (s : Nat → Bool) (n : Nat) : ∀ d, (∀ j, j < d → s (n + j) = false) → mem s (n + d) = mem s n
  | 0, _ => rfl
  | d + 1, h => by
    rw [← Nat.add_assoc, mem_succ, h d (by omega), mem_gap s n d (fun j hj => h j (by omega))]
    simp
/-- What is left of word i behind its first m bits. -/
def lft (s : Nat → Bool) (i m : Nat) : Nat := bitsN (fun j => decide (m ≤ j) && s (64 * i + j)) 64
theorem lft_zero (s : Nat → Bool) (i : Nat) : lft s i 0 = W64 s i := bitsN_ext fun j _ => by simp
theorem lft_lt (s : Nat → Bool) (i m : Nat) : lft s i m < 18446744073709551616 := bitsN_lt _ 64
theorem lft_test (s : Nat → Bool) (i m j : Nat) : (lft s i m).testBit j = (decide (j < 64) && (decide (m ≤ j) && s (64 * i + j))) := bitsN_test _ _ _
theorem lft_none {s : Nat → Bool} {i m : Nat} (h : lft s i m = 0) (hm : m ≤ 64) : mem s (64 * (i + 1)) = mem s (64 * i + m) := by
  have e : 64 * (i + 1) = 64 * i + m + (64 - m) := by omega
  rw [e]
  refine mem_gap s _ _ fun j hj => ?_
  have q := lft_test s i m (m + j)
  rw [h] at q
  have h1 : m + j < 64 := by omega
  simp [h1] at q
  rw [Nat.add_assoc]
  exact q
theorem lft_some {s : Nat → Bool} {i m : Nat} (h : lft s i m ≠ 0) : ∃ k, k = Lib.ctz 64 (lft s i m) ∧ m ≤ k ∧ k < 64 ∧ s (64 * i + k) = true ∧ mem s (64 * i + k + 1) = mem s (64 * i + m) ++ [64 * i + k] ∧ lft s i m &&& (lft s i m - 1) = lft s i (k + 1) := by
  obtain ⟨hl, hk⟩ := ctz_lowest h (lft_lt s i m)
  obtain ⟨k, ek⟩ : ∃ k, k = Lib.ctz 64 (lft s i m) := ⟨_, rfl⟩
  rw [← ek] at hl hk
  have hb := hl.1
  rw [lft_test] at hb
  simp [hk] at hb
  refine ⟨k, ek, hb.1, hk, hb.2, ?_, ?_⟩
  · rw [mem_succ, if_pos hb.2]
    congr 1
    have e : 64 * i + k = 64 * i + m + (k - m) := by omega
    rw [e]
    refine mem_gap s _ _ fun j hj => ?_
    have q := hl.2 (m + j) (by omega)
    rw [lft_test] at q
    have h1 : m + j < 64 := by omega
    simp [h1] at q
    rw [Nat.add_assoc]
    exact q
  · apply Nat.eq_of_testBit_eq
    intro j
    rw [lowest_and hl, lft_test, lft_test]
    by_cases hj : j < 64
    · by_cases h1 : j < k
      · have q := hl.2 j h1
        rw [lft_test] at q
        simp [hj] at q
        have h2 : ¬ (k + 1 ≤ j) := by omega
        by_cases h3 : m ≤ j
        · simp [hj, h2, h3, q h3]
        · simp [h3, h2]
      · by_cases h2 : j = k
        · have h4 : ¬ k + 1 ≤ j := by omega
          simp [h2]; omega
        · have h3 : m ≤ j := by omega
          have h4 : k + 1 ≤ j := by omega
          simp [hj, h3, h4, h2]
    · simp [hj]
theorem and_pred_lt {x : Nat} (h : x ≠ 0) : x &&& (x - 1) < x := by
  have := @Nat.and_le_right x (x - 1)
  omega
end Go.Proofs.YtmfdlcicbiincaaDoor
