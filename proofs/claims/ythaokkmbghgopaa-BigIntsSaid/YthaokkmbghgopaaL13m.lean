/- BigInts, of any two ints: the mathematics. -/
import Derived.Test.YthaokkmbghgopaaC28
import Derived.Test.YthaokkmbghgopaaC29
import Derived.Test.YthaokkmbghgopaaL13p
namespace Go.Proofs.Ythaokkmbghgopaa
open Go.RowKit


theorem dec_dd : ∀ n : Nat, dec n = Lib.decDigits n := fun n => by
  induction n using Nat.strongRecOn with
  | _ n ih =>
    by_cases h : n < 10
    · rw [dec_small h, Lib.decDigits_one h]
    · rw [dec_big h, Lib.decDigits, dif_neg h, ih (n / 10) (by omega)]
theorem txt_itoa (n : Int) : txt n = Lib.itoa n := by
  unfold txt Lib.itoa
  by_cases h : n < 0
  · rw [if_pos h, if_pos h, dec_dd]
  · rw [if_neg h, if_neg h, dec_dd, show n.natAbs = n.toNat by omega]
theorem b8 {z : Int} (h : z.natAbs ≤ 9223372036854775807) : z.natAbs < B ^ 8 := Nat.lt_of_le_of_lt h (by decide)
theorem mul_bd {p q : Int} (f1 : -1073741824 ≤ p) (f2 : p ≤ 1073741824) (f3 : -1073741824 ≤ q) (f4 : q ≤ 1073741824) : (p * q).natAbs ≤ 1152921504606846976 := by
  rw [Int.natAbs_mul]
  exact Nat.le_trans (Nat.mul_le_mul (show p.natAbs ≤ 1073741824 by omega) (show q.natAbs ≤ 1073741824 by omega)) (by decide)
theorem of_mk {z : Int} (h0 : -9223372036854775807 ≤ z) (h1 : z ≤ 9223372036854775807) : OfN z z (decide (z < 0)) (dig z.natAbs) := ⟨Nm.mk' (b8 (by omega)), rfl, by omega, by omega⟩
theorem div_bd {p q : Int} (f1 : -1073741824 ≤ p) (f2 : p ≤ 1073741824) : -1073741824 ≤ p.tdiv q ∧ p.tdiv q ≤ 1073741824 := by
  have := Int.natAbs_tdiv_le_natAbs p q
  omega
theorem mod_bd {p q : Int} (f1 : -1073741824 ≤ p) (f2 : p ≤ 1073741824) : -1073741824 ≤ p.tmod q ∧ p.tmod q ≤ 1073741824 := by
  have h : (p.tmod q).natAbs = p.natAbs % q.natAbs := Int.natAbs_tmod p q
  have := Nat.mod_le p.natAbs q.natAbs
  omega
end Go.Proofs.Ythaokkmbghgopaa
