/- Contract: the document's own reading of one character. -/
import Derived.Laws.BitsAllLaws
import Derived.Test.YtlbjjkiflcjkgaaDoorR2
namespace Go.Proofs.YtlbjjkiflcjkgaaDoor
open Go.RowKit


/-- How many bytes the character has, and it; nought: it is none. -/
def sgnK3 (l : List Nat) : Nat := if bad l then 0 else (hd l).2
def sgnV3 (l : List Nat) : Nat := if bad l then 0 else (hd l).1
/-- What j of the bytes tell. -/
def accV (v0 : Nat) (l : List Nat) : Nat → Nat
  | 0 => v0
  | j + 1 => accV v0 l j * 64 + l.getD (j + 1) 0 % 64
/-- The first j bytes behind the head go on. -/
def conts (l : List Nat) : Nat → Bool
  | 0 => true
  | j + 1 => conts l j && (l.getD (j + 1) 0 / 64 == 2)
theorem and192 (x : Nat) (h : x < 256) : (bits .and .u8 (x : Int) 192 == 128) = (x / 64 == 2) := by
  have e := u8_and_nat x 192 h (by decide)
  rw [show ((192 : Nat) : Int) = 192 from rfl] at e
  rw [e]
  have e2 : x &&& 192 = x / 64 * 64 := by
    have h1 : x = x / 64 * 2 ^ 6 + x % 64 := by omega
    have h2 : x / 64 < 4 := by omega
    generalize x / 64 = a at h1 h2 ⊢
    have h3 : x % 64 < 2 ^ 6 := Nat.mod_lt _ (by decide)
    generalize x % 64 = b at h1 h3
    subst h1
    apply Nat.eq_of_testBit_eq
    intro i
    rw [Nat.testBit_and, show (192 : Nat) = 3 * 2 ^ 6 from rfl, show a * 64 = a * 2 ^ 6 from rfl, Nat.testBit_mul_two_pow, Nat.testBit_mul_two_pow]
    by_cases hi : 6 ≤ i
    · have e1 : (a * 2 ^ 6 + b).testBit i = a.testBit (i - 6) := by
        rw [Nat.mul_comm, Nat.testBit_two_pow_mul_add _ h3, if_neg (by omega)]
      have e2 : (3 : Nat).testBit (i - 6) = decide (i - 6 < 2) := Nat.testBit_two_pow_sub_one 2 _
      rw [e1, e2]
      by_cases h6 : i - 6 < 2
      · simp [hi, h6]
      · have : a.testBit (i - 6) = false := Nat.testBit_lt_two_pow (Nat.lt_of_lt_of_le h2 (show 2 ^ 2 ≤ 2 ^ (i - 6) from Nat.pow_le_pow_right (by decide) (by omega)))
        simp [this]
    · simp [hi]
  rw [e2, Bool.eq_iff_iff]
  simp
  omega
theorem and63 (x : Nat) (h : x < 256) : bits .and .u8 (x : Int) 63 = ((x % 64 : Nat) : Int) := by
  have e := u8_and_nat x 63 h (by decide)
  rw [show ((63 : Nat) : Int) = 63 from rfl] at e
  rw [e, nat_mask6]
/-- By the head: how long the character says that it is. -/
def lenH (c : Nat) : Nat := if 192 ≤ c ∧ c < 224 then 2 else if 224 ≤ c ∧ c < 240 then 3 else if 240 ≤ c ∧ c < 248 then 4 else 0
def leaH (c : Nat) : Nat := if 192 ≤ c ∧ c < 224 then 128 else if 224 ≤ c ∧ c < 240 then 2048 else 65536
def subH (c : Nat) : Nat := if 192 ≤ c ∧ c < 224 then 192 else if 224 ≤ c ∧ c < 240 then 224 else 240
/-- The head, the rest and the number decide. -/
theorem sign_bad1 {l : List Nat} (h : 128 ≤ l.getD 0 0) (h0 : lenH (l.getD 0 0) = 0 ∨ l.length < lenH (l.getD 0 0)) : bad l = true := by
  unfold bad hd
  unfold lenH at h0
  generalize l.getD 0 0 = b0 at *
  unfold Lib.decodeN
  have k1 : ¬ b0 < 128 := by omega
  by_cases a : 192 ≤ b0 ∧ b0 < 224
  · rw [if_pos a] at h0
    rw [if_neg k1, if_neg (by omega), if_neg (by omega), if_neg (by omega)]; rfl
  rw [if_neg a] at h0
  by_cases a2 : 224 ≤ b0 ∧ b0 < 240
  · rw [if_pos a2] at h0
    rw [if_neg k1, if_neg (by omega), if_neg (by omega), if_neg (by omega)]; rfl
  rw [if_neg a2] at h0
  by_cases a3 : 240 ≤ b0 ∧ b0 < 248
  · rw [if_pos a3] at h0
    rw [if_neg k1, if_neg (by omega), if_neg (by omega), if_neg (by omega)]; rfl
  · rw [if_neg k1, if_neg (by omega), if_neg (by omega), if_neg (by omega)]; rfl
/-- A byte among those that must go on does not. -/
theorem sign_bad2 {l : List Nat} {j : Nat} (h : 128 ≤ l.getD 0 0) (hj : 1 ≤ j) (hj2 : j < lenH (l.getD 0 0)) (hb : ¬ l.getD j 0 / 64 = 2) : bad l = true := by
  unfold bad hd
  unfold lenH at hj2
  generalize hb0 : l.getD 0 0 = b0 at *
  have hj4 : j = 1 ∨ j = 2 ∨ j = 3 := by (repeat' split at hj2) <;> omega
  unfold Lib.decodeN
  have k1 : ¬ b0 < 128 := by omega
  rcases hj4 with rfl | rfl | rfl
  all_goals
    by_cases a : 192 ≤ b0 ∧ b0 < 224
    · rw [if_pos a] at hj2
      first | omega | (rw [if_neg k1, if_neg (by omega), if_neg (by omega), if_neg (by omega)]; rfl)
    · rw [if_neg a] at hj2
      by_cases a2 : 224 ≤ b0 ∧ b0 < 240
      · rw [if_pos a2] at hj2
        first | omega | (rw [if_neg k1, if_neg (by omega), if_neg (by omega), if_neg (by omega)]; rfl)
      · rw [if_neg a2] at hj2
        by_cases a3 : 240 ≤ b0 ∧ b0 < 248
        · rw [if_pos a3] at hj2
          first | omega | (rw [if_neg k1, if_neg (by omega), if_neg (by omega), if_neg (by omega)]; rfl)
        · rw [if_neg a3] at hj2
          omega
theorem conts_get {l : List Nat} : ∀ {j : Nat}, conts l j = true → ∀ i, 1 ≤ i → i ≤ j → l.getD i 0 / 64 = 2
  | 0, _, i, h1, h2 => by omega
  | j + 1, h, i, h1, h2 => by
    unfold conts at h
    simp only [Bool.and_eq_true, beq_iff_eq] at h
    by_cases e : i = j + 1
    · subst e; exact h.2
    · exact conts_get h.1 i h1 (by omega)
/-- All bytes are there and go on: the number decides. -/
theorem sign_end {l : List Nat} (h : 128 ≤ l.getD 0 0) {n v : Nat} (hn : lenH (l.getD 0 0) = n) (h2 : 2 ≤ n) (hl : n ≤ l.length) (hc : conts l (n - 1) = true) (hv : accV (l.getD 0 0 - subH (l.getD 0 0)) l (n - 1) = v) :
    (leaH (l.getD 0 0) ≤ v ∧ v ≤ 1114111 ∧ ¬ (55296 ≤ v ∧ v < 57344) → bad l = false ∧ hd l = (v, n)) ∧ (¬ (leaH (l.getD 0 0) ≤ v ∧ v ≤ 1114111 ∧ ¬ (55296 ≤ v ∧ v < 57344)) → bad l = true) := by
  have hcg := conts_get hc
  unfold lenH at hn
  unfold leaH
  unfold subH at hv
  unfold bad hd Lib.decodeN
  generalize l.getD 0 0 = b0 at *
  have k1 : ¬ b0 < 128 := by omega
  by_cases a : 192 ≤ b0 ∧ b0 < 224
  · rw [if_pos a] at hn hv ⊢
    subst hn
    have c1 := hcg 1 (by omega) (by omega)
    simp only [accV, Nat.reduceSub, Nat.zero_add] at hv
    have e : b0 % 32 * 64 + l.getD 1 0 % 64 = v := by omega
    rw [if_neg k1, if_pos ⟨by omega, by omega, c1⟩, e]
    constructor
    · intro q
      rw [if_pos q.1]
      exact ⟨by simp, rfl⟩
    · intro q
      rw [if_neg (by omega)]
      rfl
  rw [if_neg a] at hn hv ⊢
  by_cases a2 : 224 ≤ b0 ∧ b0 < 240
  · rw [if_pos a2] at hn hv ⊢
    subst hn
    have c1 := hcg 1 (by omega) (by omega)
    have c2 := hcg 2 (by omega) (by omega)
    simp only [accV, Nat.reduceSub, Nat.zero_add] at hv
    have e : b0 % 16 * 4096 + l.getD 1 0 % 64 * 64 + l.getD 2 0 % 64 = v := by simp only [Nat.reduceAdd] at hv; omega
    rw [if_neg k1, if_neg (by omega), if_pos ⟨by omega, ⟨by omega, c1⟩, by omega, c2⟩, e]
    constructor
    · intro q
      rw [if_pos ⟨q.1, by omega⟩]
      exact ⟨by simp, rfl⟩
    · intro q
      rw [if_neg (by omega)]
      rfl
  rw [if_neg a2] at hn hv ⊢
  by_cases a3 : 240 ≤ b0 ∧ b0 < 248
  · rw [if_pos a3] at hn
    subst hn
    have c1 := hcg 1 (by omega) (by omega)
    have c2 := hcg 2 (by omega) (by omega)
    have c3 := hcg 3 (by omega) (by omega)
    simp only [accV, Nat.reduceSub, Nat.zero_add] at hv
    have e : b0 % 8 * 262144 + l.getD 1 0 % 64 * 4096 + l.getD 2 0 % 64 * 64 + l.getD 3 0 % 64 = v := by simp only [Nat.reduceAdd] at hv; omega
    rw [if_neg k1, if_neg (by omega), if_neg (by omega), if_pos ⟨by omega, ⟨by omega, c1⟩, ⟨by omega, c2⟩, by omega, c3⟩, e]
    constructor
    · intro q
      rw [if_pos ⟨q.1, by omega⟩]
      exact ⟨by simp, rfl⟩
    · intro q
      rw [if_neg (by omega)]
      rfl
  · rw [if_neg a3] at hn
    omega
end Go.Proofs.YtlbjjkiflcjkgaaDoor
