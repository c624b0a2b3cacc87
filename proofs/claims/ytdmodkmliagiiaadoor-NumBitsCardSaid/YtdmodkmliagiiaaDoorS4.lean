/- Plain facts: the bits of two words, reckoned in 64 bits. -/
import Derived.Test.YtdmodkmliagiiaaDoorS3
namespace Go.Proofs.YtdmodkmliagiiaaDoor
open Go.RowKit
theorem i64_and_nat (a b : Nat) (ha : a < 4294967296) (hb : b < 4294967296) : bits .and .i64 (a : Int) (b : Int) = ((a &&& b : Nat) : Int) := by
  have hx : a &&& b < 2 ^ 32 := Nat.and_lt_two_pow _ (by omega)
  show IntKind.i64.wrap ((BitVec.ofInt 64 (a : Int) &&& BitVec.ofInt 64 (b : Int)).toNat : Int) = _
  rw [BitVec.toNat_and, ofInt_u64 a (by omega), ofInt_u64 b (by omega), IntKind.wrap_i64]
  omega
theorem i64_and (a b : Int) (h1 : 0 ≤ a) (h2 : a < 4294967296) (h3 : 0 ≤ b) (h4 : b < 4294967296) : bits .and .i64 a b = ((a.toNat &&& b.toNat : Nat) : Int) := by
  obtain ⟨A, rfl⟩ := Int.eq_ofNat_of_zero_le h1
  obtain ⟨B, rfl⟩ := Int.eq_ofNat_of_zero_le h3
  simpa using i64_and_nat A B (by omega) (by omega)
theorem i64_or_nat (a b : Nat) (ha : a < 4294967296) (hb : b < 4294967296) : bits .or .i64 (a : Int) (b : Int) = ((a ||| b : Nat) : Int) := by
  have hx : a ||| b < 2 ^ 32 := Nat.or_lt_two_pow (by omega) (by omega)
  show IntKind.i64.wrap ((BitVec.ofInt 64 (a : Int) ||| BitVec.ofInt 64 (b : Int)).toNat : Int) = _
  rw [BitVec.toNat_or, ofInt_u64 a (by omega), ofInt_u64 b (by omega), IntKind.wrap_i64]
  omega
theorem i64_or (a b : Int) (h1 : 0 ≤ a) (h2 : a < 4294967296) (h3 : 0 ≤ b) (h4 : b < 4294967296) : bits .or .i64 a b = ((a.toNat ||| b.toNat : Nat) : Int) := by
  obtain ⟨A, rfl⟩ := Int.eq_ofNat_of_zero_le h1
  obtain ⟨B, rfl⟩ := Int.eq_ofNat_of_zero_le h3
  simpa using i64_or_nat A B (by omega) (by omega)
theorem i64_xor_nat (a b : Nat) (ha : a < 4294967296) (hb : b < 4294967296) : bits .xor .i64 (a : Int) (b : Int) = ((a ^^^ b : Nat) : Int) := by
  have hx : a ^^^ b < 2 ^ 32 := Nat.xor_lt_two_pow (by omega) (by omega)
  show IntKind.i64.wrap ((BitVec.ofInt 64 (a : Int) ^^^ BitVec.ofInt 64 (b : Int)).toNat : Int) = _
  rw [BitVec.toNat_xor, ofInt_u64 a (by omega), ofInt_u64 b (by omega), IntKind.wrap_i64]
  omega
theorem i64_xor (a b : Int) (h1 : 0 ≤ a) (h2 : a < 4294967296) (h3 : 0 ≤ b) (h4 : b < 4294967296) : bits .xor .i64 a b = ((a.toNat ^^^ b.toNat : Nat) : Int) := by
  obtain ⟨A, rfl⟩ := Int.eq_ofNat_of_zero_le h1
  obtain ⟨B, rfl⟩ := Int.eq_ofNat_of_zero_le h3
  simpa using i64_xor_nat A B (by omega) (by omega)
theorem sg_0 {z : Int} (h0 : 0 ≤ z) (h1 : z < 4294967296) : i32R 0 z = sg z := by
  have hv : IsV 0 z := .inl ⟨rfl, by omega, by omega⟩
  have e : wordR 0 z = z := by
    unfold wordR
    rw [vk_of hv, vn_of hv]
    unfold wordS
    rw [if_pos rfl]
    omega
  rw [sg_i32, e]
section
variable {x y : Int} (hx0 : 0 ≤ x) (hx1 : x < 4294967296) (hy0 : 0 ≤ y) (hy1 : y < 4294967296)
include hx0 hx1 hy0 hy1
theorem rbit1_is : i32R 0 (bits BinOp.and IntKind.i64 x y) = bitN 1 x y := by
  rw [i64_and x y hx0 hx1 hy0 hy1, bitN1]
  exact sg_0 (by omega) (by have := @and_lt x.toNat y.toNat (by omega); omega)
theorem rbit2_is : i32R 0 (bits BinOp.or IntKind.i64 x y) = bitN 2 x y := by
  rw [i64_or x y hx0 hx1 hy0 hy1, bitN2]
  exact sg_0 (by omega) (by have := @or_lt x.toNat y.toNat (by omega) (by omega); omega)
theorem rbit3_is : i32R 0 (bits BinOp.xor IntKind.i64 x y) = bitN 3 x y := by
  rw [i64_xor x y hx0 hx1 hy0 hy1, bitN3]
  exact sg_0 (by omega) (by have := @xor_lt x.toNat y.toNat (by omega) (by omega); omega)
end
theorem pow_le (s : Nat) (h : s < 32) : (2 : Int) ^ s ≤ 2147483648 := by
  have h1 : (2 : Nat) ^ s ≤ 2 ^ 31 := Nat.pow_le_pow_right (by decide) (by omega)
  have h2 : (((2 : Nat) ^ s : Nat) : Int) ≤ ((2 ^ 31 : Nat) : Int) := Int.ofNat_le.2 h1
  simpa using h2
theorem rbit4_is {x y : Int} (hx0 : 0 ≤ x) (hx1 : x < 4294967296) : i32R 0 ((wrap64 (x * 2 ^ (y % 32).toNat)).tmod 4294967296) = bitN 4 x y := by
  have hp := pow_le (y % 32).toNat (by omega)
  have hq : (0 : Int) < 2 ^ (y % 32).toNat := Int.pow_pos (by decide)
  have h1 : 0 ≤ x * 2 ^ (y % 32).toNat := Int.mul_nonneg hx0 (Int.le_of_lt hq)
  have h2 : x * 2 ^ (y % 32).toNat ≤ 4294967295 * 2147483648 := Int.mul_le_mul (by omega) hp (by omega) (by decide)
  rw [bitN4]
  obtain ⟨z, hz⟩ : ∃ z, z = x * 2 ^ (y % 32).toNat := ⟨_, rfl⟩
  rw [← hz] at h1 h2 ⊢
  clear hz
  rw [IntWalk.wrap64_in z (by omega), Int.tmod_eq_emod_of_nonneg h1]
  exact sg_0 (by omega) (by omega)
end Go.Proofs.YtdmodkmliagiiaaDoor
