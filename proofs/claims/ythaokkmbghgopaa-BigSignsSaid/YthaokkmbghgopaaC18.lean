/- Contracts: Add, Sub, Mul, Div, Rem, at any arguments. -/
import Derived.Test.YthaokkmbghgopaaC14
import Derived.Test.YthaokkmbghgopaaC16
import Derived.Test.YthaokkmbghgopaaC17
namespace Go.Proofs.Ythaokkmbghgopaa
open Go.RowKit


theorem sgn_self (a : Int) : sgn (decide (a < 0)) a.natAbs = a := by
  by_cases h : a < 0
  · simp [h, sgn]; omega
  · simp [h, sgn]; omega
theorem add_c {an bn : Bool} {A C : Option Addr} {xs ys : List Nat} {n c m d : Nat} (w : World) (ha : Arg w A xs n c) (hb : Arg w C ys m d) : Calls Try.prog 17 #[.agg #[.bool an, .slice A n c], .agg #[.bool bn, .slice C m d]] w (RetBigOk (bigI an xs + bigI bn ys) w) := by
  refine add_h an bn _ _ A C xs ys _ _ n c m d w (Lib.hid ha) (Lib.hid hb) (Lib.hid ⟨rfl, rfl⟩) (Lib.hid ⟨rfl, rfl⟩) (dig_len_le (bigI_abs ha.lim.1)) (dig_len_le (bigI_abs hb.lim.1)) _ (Lib.hid ?_) (Lib.hid ?_) (Lib.hid ?_)
  · rw [val_dig, val_dig, sgn_self, sgn_self]
  · intro h
    rw [val_dig]
    have := of_decide_eq_true h
    omega
  · intro h
    rw [val_dig]
    have := of_decide_eq_true h
    omega
theorem sgn_mul (a b : Int) : sgn (!decide (a < 0) == decide (b < 0)) (a.natAbs * b.natAbs) = a * b := by
  rcases Int.lt_or_le a 0 with h1 | h1 <;> rcases Int.lt_or_le b 0 with h2 | h2
  · have e1 : decide (a < 0) = true := by simpa using h1
    have e2 : decide (b < 0) = true := by simpa using h2
    rw [e1, e2, show (!(true == true)) = false from rfl]
    show ((a.natAbs * b.natAbs : Nat) : Int) = a * b
    rw [Int.natCast_mul, show ((a.natAbs : Nat) : Int) = -a by omega, show ((b.natAbs : Nat) : Int) = -b by omega, Int.neg_mul_neg]
  · have e1 : decide (a < 0) = true := by simpa using h1
    have e2 : decide (b < 0) = false := by simpa using h2
    rw [e1, e2, show (!(true == false)) = true from rfl]
    show -((a.natAbs * b.natAbs : Nat) : Int) = a * b
    rw [Int.natCast_mul, show ((a.natAbs : Nat) : Int) = -a by omega, show ((b.natAbs : Nat) : Int) = b by omega, Int.neg_mul, Int.neg_neg]
  · have e1 : decide (a < 0) = false := by simpa using h1
    have e2 : decide (b < 0) = true := by simpa using h2
    rw [e1, e2, show (!(false == true)) = true from rfl]
    show -((a.natAbs * b.natAbs : Nat) : Int) = a * b
    rw [Int.natCast_mul, show ((a.natAbs : Nat) : Int) = a by omega, show ((b.natAbs : Nat) : Int) = -b by omega, Int.mul_neg, Int.neg_neg]
  · have e1 : decide (a < 0) = false := by simpa using h1
    have e2 : decide (b < 0) = false := by simpa using h2
    rw [e1, e2, show (!(false == false)) = false from rfl]
    show ((a.natAbs * b.natAbs : Nat) : Int) = a * b
    rw [Int.natCast_mul, show ((a.natAbs : Nat) : Int) = a by omega, show ((b.natAbs : Nat) : Int) = b by omega]
theorem mul_c {an bn : Bool} {A C : Option Addr} {xs ys : List Nat} {n c m d : Nat} (w : World) (ha : Arg w A xs n c) (hb : Arg w C ys m d) : Calls Try.prog 21 #[.agg #[.bool an, .slice A n c], .agg #[.bool bn, .slice C m d]] w (RetBigOk (bigI an xs * bigI bn ys) w) := by
  have h := mul_h an bn _ _ A C xs ys _ _ n c m d w (Lib.hid ha) (Lib.hid hb) (Lib.hid ⟨rfl, rfl⟩) (Lib.hid ⟨rfl, rfl⟩) (dig_len_le (bigI_abs ha.lim.1)) (dig_len_le (bigI_abs hb.lim.1))
  rw [val_dig, val_dig, sgn_mul] at h
  exact h
theorem sgn_div (a b : Int) : sgn (!decide (a < 0) == decide (b < 0)) (a.natAbs / b.natAbs) = a.tdiv b := by
  rcases Int.lt_or_le a 0 with h1 | h1 <;> rcases Int.lt_or_le b 0 with h2 | h2
  · have e1 : decide (a < 0) = true := by simpa using h1
    have e2 : decide (b < 0) = true := by simpa using h2
    rw [e1, e2, show (!(true == true)) = false from rfl]
    show ((a.natAbs / b.natAbs : Nat) : Int) = a.tdiv b
    rw [Int.natCast_ediv, show ((a.natAbs : Nat) : Int) = -a by omega, show ((b.natAbs : Nat) : Int) = -b by omega, ← Int.tdiv_eq_ediv_of_nonneg (by omega), Int.neg_tdiv, Int.tdiv_neg, Int.neg_neg]
  · have e1 : decide (a < 0) = true := by simpa using h1
    have e2 : decide (b < 0) = false := by simpa using h2
    rw [e1, e2, show (!(true == false)) = true from rfl]
    show -((a.natAbs / b.natAbs : Nat) : Int) = a.tdiv b
    rw [Int.natCast_ediv, show ((a.natAbs : Nat) : Int) = -a by omega, show ((b.natAbs : Nat) : Int) = b by omega, ← Int.tdiv_eq_ediv_of_nonneg (by omega), Int.neg_tdiv, Int.neg_neg]
  · have e1 : decide (a < 0) = false := by simpa using h1
    have e2 : decide (b < 0) = true := by simpa using h2
    rw [e1, e2, show (!(false == true)) = true from rfl]
    show -((a.natAbs / b.natAbs : Nat) : Int) = a.tdiv b
    rw [Int.natCast_ediv, show ((a.natAbs : Nat) : Int) = a by omega, show ((b.natAbs : Nat) : Int) = -b by omega, ← Int.tdiv_eq_ediv_of_nonneg h1, Int.tdiv_neg, Int.neg_neg]
  · have e1 : decide (a < 0) = false := by simpa using h1
    have e2 : decide (b < 0) = false := by simpa using h2
    rw [e1, e2, show (!(false == false)) = false from rfl]
    show ((a.natAbs / b.natAbs : Nat) : Int) = a.tdiv b
    rw [Int.natCast_ediv, show ((a.natAbs : Nat) : Int) = a by omega, show ((b.natAbs : Nat) : Int) = b by omega, ← Int.tdiv_eq_ediv_of_nonneg h1]
theorem sgn_rem (a b : Int) : sgn (decide (a < 0)) (a.natAbs % b.natAbs) = a.tmod b := by
  rcases Int.lt_or_le a 0 with h1 | h1
  · have e1 : decide (a < 0) = true := by simpa using h1
    rw [e1]
    show -((a.natAbs % b.natAbs : Nat) : Int) = a.tmod b
    have e : a = -((a.natAbs : Nat) : Int) := by omega
    conv => rhs; rw [e]
    rw [Int.neg_tmod, Int.natCast_emod, ← Int.tmod_eq_emod_of_nonneg (Int.natCast_nonneg _)]
    rcases Int.natAbs_eq b with hb | hb
    · rw [← hb]
    · conv => rhs; rw [hb]
      rw [Int.tmod_neg]
  · have e1 : decide (a < 0) = false := by simpa using h1
    rw [e1]
    show ((a.natAbs % b.natAbs : Nat) : Int) = a.tmod b
    have e : a = ((a.natAbs : Nat) : Int) := by omega
    conv => rhs; rw [e]
    rw [Int.natCast_emod, ← Int.tmod_eq_emod_of_nonneg (Int.natCast_nonneg _)]
    rcases Int.natAbs_eq b with hb | hb
    · rw [← hb]
    · conv => rhs; rw [hb]
      rw [Int.tmod_neg]
/-- A number and no error; or, where b is zero, zero and the error 4. -/
theorem div_c {an bn : Bool} {A C : Option Addr} {xs ys : List Nat} {n c m d : Nat} (w : World) (ha : Arg w A xs n c) (hb : Arg w C ys m d) : Calls Try.prog 24 #[.agg #[.bool an, .slice A n c], .agg #[.bool bn, .slice C m d]] w (RetBigE ((bigI an xs).tdiv (bigI bn ys)) (bigI bn ys).natAbs w) := by
  have h := div_h an bn _ _ A C xs ys _ _ n c m d w (Lib.hid ha) (Lib.hid hb) (Lib.hid ⟨rfl, rfl⟩) (Lib.hid ⟨rfl, rfl⟩) (dig_len_le (bigI_abs ha.lim.1)) (dig_len_le (bigI_abs hb.lim.1))
  rw [val_dig, val_dig, sgn_div] at h
  exact h
theorem rem_c {an bn : Bool} {A C : Option Addr} {xs ys : List Nat} {n c m d : Nat} (w : World) (ha : Arg w A xs n c) (hb : Arg w C ys m d) : Calls Try.prog 26 #[.agg #[.bool an, .slice A n c], .agg #[.bool bn, .slice C m d]] w (RetBigE ((bigI an xs).tmod (bigI bn ys)) (bigI bn ys).natAbs w) := by
  have h := rem_h an bn _ _ A C xs ys _ _ n c m d w (Lib.hid ha) (Lib.hid hb) (Lib.hid ⟨rfl, rfl⟩) (Lib.hid ⟨rfl, rfl⟩) (dig_len_le (bigI_abs ha.lim.1)) (dig_len_le (bigI_abs hb.lim.1))
  rw [val_dig, val_dig, sgn_rem] at h
  exact h
/-- A number that is returned is an argument again. -/
theorem arg_of {w : World} {A : Option Addr} {n : Int} {c : Nat} (hab : n.natAbs < B ^ 8) (h1 : (dig n.natAbs).length ≤ c) (h2 : c ≤ 9223372036854775807) (h3 : Lim w A (dig n.natAbs)) : Arg w A (dig n.natAbs) (dig n.natAbs).length c :=
  ⟨h3, rfl, by have := dig_len_le hab; omega, h1, h2⟩
end Go.Proofs.Ythaokkmbghgopaa
