/- The plain functions that the walks of chapter 1 speak of: numbers as a kind and an integer. -/
namespace Go.Proofs.YtmlfcmmgoiigkaaGreatDoor

def mayB (k n : Int) : Bool := if k == 0 then decide (-9007199254740991 ≤ n) && decide (n ≤ 9007199254740991) else (k == 1 || k == 2 || k == 3 || k == 4) && n == 0
def vk (k n : Int) : Int := if mayB k n = true then k else 2
def vn (k n : Int) : Int := if mayB k n = true then n else 0

/-- What a number that may be is. -/
def IsV (p q : Int) : Prop := (p = 0 ∧ -9007199254740991 ≤ q ∧ q ≤ 9007199254740991) ∨ (p = 1 ∧ q = 0) ∨ (p = 2 ∧ q = 0) ∨ (p = 3 ∧ q = 0) ∨ (p = 4 ∧ q = 0)

theorem isV_v (k n : Int) : IsV (vk k n) (vn k n) := by
  unfold vk vn
  by_cases h : mayB k n = true
  · simp only [if_pos h]
    unfold mayB at h
    unfold IsV
    by_cases h0 : k = 0
    · subst h0; simp at h; omega
    · simp [h0] at h; omega
  · simp only [if_neg h]; unfold IsV; omega

theorem mayB_of_isV {p q : Int} (h : IsV p q) : mayB p q = true := by
  unfold mayB
  rcases h with ⟨rfl, h1, h2⟩ | ⟨rfl, rfl⟩ | ⟨rfl, rfl⟩ | ⟨rfl, rfl⟩ | ⟨rfl, rfl⟩ <;> simp <;> omega

theorem vk_of {p q : Int} (h : IsV p q) : vk p q = p := by unfold vk; rw [if_pos (mayB_of_isV h)]
theorem vn_of {p q : Int} (h : IsV p q) : vn p q = q := by unfold vn; rw [if_pos (mayB_of_isV h)]

/-- An answer: kind, number, whether it is in the set. -/
structure Ans where
  k : Int
  n : Int
  ok : Bool

def ofS (n : Int) : Ans := if -9007199254740991 ≤ n ∧ n ≤ 9007199254740991 then ⟨0, n, true⟩ else ⟨2, 0, false⟩

def addS (p q r s : Int) : Ans :=
  if p = 2 ∨ r = 2 ∨ ((p = 3 ∨ p = 4) ∧ (r = 3 ∨ r = 4) ∧ p ≠ r) then ⟨2, 0, true⟩
  else if p = 3 ∨ p = 4 then ⟨p, q, true⟩
  else if r = 3 ∨ r = 4 then ⟨r, s, true⟩
  else if p = 1 ∧ r = 1 then ⟨1, 0, true⟩
  else ofS (q + s)

def addR (k n l m : Int) : Ans := addS (vk k n) (vn k n) (vk l m) (vn l m)

def negB (k n : Int) : Bool := k == 0 && decide (n < 0) || (k == 1 || k == 4)
def zeroB (k n : Int) : Bool := k == 1 || (k == 0 && n == 0)
def infK (b : Bool) : Int := if b = true then 4 else 3
def zeroK (b : Bool) : Int := if b = true then 1 else 0
def absI (x : Int) : Int := if x < 0 then -x else x

def mulS (p q r s : Int) : Ans :=
  if p = 2 ∨ r = 2 ∨ ((p = 3 ∨ p = 4) ∧ zeroB r s = true) ∨ (zeroB p q = true ∧ (r = 3 ∨ r = 4)) then ⟨2, 0, true⟩
  else if p = 3 ∨ p = 4 ∨ r = 3 ∨ r = 4 then ⟨infK (!(negB p q == negB r s)), 0, true⟩
  else if zeroB p q = true ∨ zeroB r s = true then ⟨zeroK (!(negB p q == negB r s)), 0, true⟩
  else ofS (q * s)
def mulR (k n l m : Int) : Ans := mulS (vk k n) (vn k n) (vk l m) (vn l m)

def divS (p q r s : Int) : Ans :=
  if p = 2 ∨ r = 2 ∨ ((p = 3 ∨ p = 4) ∧ (r = 3 ∨ r = 4)) ∨ (zeroB p q = true ∧ zeroB r s = true) then ⟨2, 0, true⟩
  else if p = 3 ∨ p = 4 ∨ zeroB r s = true then ⟨infK (!(negB p q == negB r s)), 0, true⟩
  else if r = 3 ∨ r = 4 ∨ zeroB p q = true then ⟨zeroK (!(negB p q == negB r s)), 0, true⟩
  else if q.tmod s = 0 then ofS (q.tdiv s) else ⟨2, 0, false⟩
def divR (k n l m : Int) : Ans := divS (vk k n) (vn k n) (vk l m) (vn l m)

/-- A number: its kind, its integer. -/
structure Nm where
  k : Int
  n : Int

def remS (p q r s : Int) : Nm :=
  if p = 2 ∨ r = 2 ∨ p = 3 ∨ p = 4 ∨ zeroB r s = true then ⟨2, 0⟩
  else if r = 3 ∨ r = 4 ∨ zeroB p q = true then ⟨p, q⟩
  else if q.tmod s = 0 then ⟨zeroK (negB p q), 0⟩ else ⟨0, q.tmod s⟩
def remR (k n l m : Int) : Nm := remS (vk k n) (vn k n) (vk l m) (vn l m)

def negS (p q : Int) : Nm :=
  if p = 1 then ⟨0, 0⟩ else if p = 3 then ⟨4, 0⟩ else if p = 4 then ⟨3, 0⟩ else if p = 2 then ⟨2, 0⟩ else if q = 0 then ⟨1, 0⟩ else ⟨0, -q⟩
def negR (k n : Int) : Nm := negS (vk k n) (vn k n)
def subR (k n l m : Int) : Ans := addR k n (negR l m).k (negR l m).n

def wholeS (p q : Int) : Nm := if p = 2 ∨ p = 1 then ⟨0, 0⟩ else ⟨p, q⟩
def wholeR (k n : Int) : Nm := wholeS (vk k n) (vn k n)
def indexS (p q : Int) : Int := if p = 0 ∧ 0 ≤ q then q else 0
def indexB (p q : Int) : Bool := p == 0 && decide (0 ≤ q)
def indexR (k n : Int) : Int := indexS (wholeR k n).k (wholeR k n).n
def indexO (k n : Int) : Bool := indexB (wholeR k n).k (wholeR k n).n

def wordS (p q : Int) : Int := if p = 0 then q % 4294967296 else 0
def wordR (k n : Int) : Int := wordS (vk k n) (vn k n)

def place (k n : Int) : Int := if k = 3 then 9007199254740992 else if k = 4 then -9007199254740992 else n
def lessS (p q r s : Int) : Bool := !(p == 2) && (!(r == 2) && decide (place p q < place r s))
def equalS (p q r s : Int) : Bool := !(p == 2) && (!(r == 2) && (place p q == place r s))
def lessR (k n l m : Int) : Bool := lessS (vk k n) (vn k n) (vk l m) (vn l m)
def equalR (k n l m : Int) : Bool := equalS (vk k n) (vn k n) (vk l m) (vn l m)
def sameR (k n l m : Int) : Bool := vk k n == vk l m && vn k n == vn l m

theorem absI_mul (x y : Int) : absI x * absI y = absI (x * y) := by
  unfold absI
  by_cases hx : x < 0 <;> by_cases hy : y < 0
  · have h : ¬ x * y < 0 := Int.not_lt.2 (Int.le_of_lt (Int.mul_pos_of_neg_of_neg hx hy))
    rw [if_pos hx, if_pos hy, if_neg h, Int.neg_mul_neg]
  · rw [if_pos hx, if_neg hy]
    by_cases h0 : y = 0
    · subst h0; simp
    · have h : x * y < 0 := Int.mul_neg_of_neg_of_pos hx (by omega)
      rw [if_pos h, Int.neg_mul]
  · rw [if_neg hx, if_pos hy]
    by_cases h0 : x = 0
    · subst h0; simp
    · have h : x * y < 0 := Int.mul_neg_of_pos_of_neg (by omega) hy
      rw [if_pos h, Int.mul_neg]
  · have h : ¬ x * y < 0 := Int.not_lt.2 (Int.mul_nonneg (by omega) (by omega))
    rw [if_neg hx, if_neg hy, if_neg h]

theorem absI_le {x b : Int} : absI x ≤ b ↔ -b ≤ x ∧ x ≤ b := by unfold absI; split <;> omega
theorem absI_pos {x : Int} (h : x ≠ 0) : 0 < absI x := by unfold absI; split <;> omega

/-- Where the size of a product is asked by a division. -/
theorem prod_out {x y : Int} (hy : y ≠ 0) (h : 9007199254740991 / absI y < absI x) : ofS (x * y) = ⟨2, 0, false⟩ := by
  unfold ofS
  rw [if_neg]
  rw [← absI_le, ← absI_mul]
  have := (Int.ediv_lt_iff_lt_mul (absI_pos hy)).1 h
  omega
theorem prod_in {x y : Int} (hy : y ≠ 0) (h : ¬ 9007199254740991 / absI y < absI x) : -9007199254740991 ≤ x * y ∧ x * y ≤ 9007199254740991 := by
  rw [← absI_le, ← absI_mul]
  exact Int.not_lt.1 fun k => h ((Int.ediv_lt_iff_lt_mul (absI_pos hy)).2 k)

theorem tdiv_le {q : Int} (s : Int) (h1 : -9007199254740991 ≤ q) (h2 : q ≤ 9007199254740991) : -9007199254740991 ≤ q.tdiv s ∧ q.tdiv s ≤ 9007199254740991 := by
  have e : (q.tdiv s).natAbs ≤ q.natAbs := by rw [Int.natAbs_tdiv]; exact Nat.div_le_self _ _
  omega

/-- A valid number, by cases: a whole one that is 0, one that is not, one of the others. -/
theorem isV6 {p q : Int} (h : IsV p q) : (p = 0 ∧ q = 0) ∨ (p = 0 ∧ q ≠ 0 ∧ -9007199254740991 ≤ q ∧ q ≤ 9007199254740991) ∨ (p = 1 ∧ q = 0) ∨ (p = 2 ∧ q = 0) ∨ (p = 3 ∧ q = 0) ∨ (p = 4 ∧ q = 0) := by
  unfold IsV at h; omega
end Go.Proofs.YtmlfcmmgoiigkaaGreatDoor
