/- Contracts of text's smallest functions: isHigh, isLow, split, join. -/
import Derived.WalkKit
import Derived.WalkSpells
import Derived.WalkLawsBesides
import Derived.Handy
import Derived.Deep.RegionHeld3
import Derived.Deep.DeepCutAuto
import Derived.Deep.QuietTactic
import Derived.BigQuiet
import Derived.Lib.Hide
import Derived.KernelRfl
import Derived.WalkMore
import Derived.Deep.LoopGhost
import Derived.Laws.BitsAllLaws
import Derived.Laws.DeepBits32
import Derived.Test.YtdckonlipinblaaGreatDoorProg
import Derived.Test.YtdckonlipinblaaGreatDoorW
namespace Go.Proofs.YtdckonlipinblaaGreatDoor
open Go.RowKit


theorem andNot10 (x : Nat) (hx : x < 65536) : x &&& 64512 = x / 1024 * 1024 := by
  have h1 : x = x / 1024 * 2 ^ 10 + x % 1024 := by omega
  have h2 : x / 1024 < 64 := by omega
  generalize x / 1024 = a at h1 h2 ⊢
  have h3 : x % 1024 < 2 ^ 10 := Nat.mod_lt _ (by decide)
  generalize x % 1024 = b at h1 h3
  subst h1
  apply Nat.eq_of_testBit_eq
  intro i
  rw [Nat.testBit_and, show (64512 : Nat) = 63 * 2 ^ 10 from rfl, show a * 1024 = a * 2 ^ 10 from rfl, Nat.testBit_mul_two_pow, Nat.testBit_mul_two_pow]
  by_cases hi : 10 ≤ i
  · have e1 : (a * 2 ^ 10 + b).testBit i = a.testBit (i - 10) := by
      rw [Nat.mul_comm, Nat.testBit_two_pow_mul_add _ h3, if_neg (by omega)]
    have e2 : (63 : Nat).testBit (i - 10) = decide (i - 10 < 6) := Nat.testBit_two_pow_sub_one 6 _
    rw [e1, e2]
    by_cases h6 : i - 10 < 6
    · simp [hi, h6]
    · have : a.testBit (i - 10) = false := Nat.testBit_lt_two_pow (Nat.lt_of_lt_of_le h2 (show 2 ^ 6 ≤ 2 ^ (i - 10) from Nat.pow_le_pow_right (by decide) (by omega)))
      simp [this]
  · simp [hi]
theorem hi_bits (u : Nat) (hu : u < 65536) : (bits .andNot .u16 (u : Int) 1023 == 55296) = hiU u := by
  have e := u16_andNot_nat u 1023 hu (by decide)
  rw [show ((1023 : Nat) : Int) = 1023 from rfl] at e
  rw [e, show 65535 - 1023 = 64512 from rfl, andNot10 u hu]
  unfold hiU
  rw [Bool.eq_iff_iff]
  simp
  omega
theorem lo_bits (u : Nat) (hu : u < 65536) : (bits .andNot .u16 (u : Int) 1023 == 56320) = loU u := by
  have e := u16_andNot_nat u 1023 hu (by decide)
  rw [show ((1023 : Nat) : Int) = 1023 from rfl] at e
  rw [e, show 65535 - 1023 = 64512 from rfl, andNot10 u hu]
  unfold loU
  rw [Bool.eq_iff_iff]
  simp
  omega
theorem i32_and_nat (a b : Nat) (ha : a < 2147483648) (hb : b < 2147483648) : bits .and .i32 (a : Int) (b : Int) = ((a &&& b : Nat) : Int) := by
  have hx : a &&& b < 2 ^ 31 := Nat.and_lt_two_pow _ (by omega)
  show IntKind.i32.wrap ((BitVec.ofInt 32 (a : Int) &&& BitVec.ofInt 32 (b : Int)).toNat : Int) = _
  rw [BitVec.toNat_and, ofInt_u32 a (by omega), ofInt_u32 b (by omega)]
  exact wrap_i32_small _ (by omega) (by omega)
theorem i32_or_nat (a b : Nat) (ha : a < 2147483648) (hb : b < 2147483648) : bits .or .i32 (a : Int) (b : Int) = ((a ||| b : Nat) : Int) := by
  have hx : a ||| b < 2 ^ 31 := Nat.or_lt_two_pow (by omega) (by omega)
  show IntKind.i32.wrap ((BitVec.ofInt 32 (a : Int) ||| BitVec.ofInt 32 (b : Int)).toNat : Int) = _
  rw [BitVec.toNat_or, ofInt_u32 a (by omega), ofInt_u32 b (by omega)]
  exact wrap_i32_small _ (by omega) (by omega)
end Go.Proofs.YtdckonlipinblaaGreatDoor
