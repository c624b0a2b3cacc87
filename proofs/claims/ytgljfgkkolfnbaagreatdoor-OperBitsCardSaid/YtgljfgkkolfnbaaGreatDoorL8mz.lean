/- Bits of one word. -/
import Derived.Test.YtgljfgkkolfnbaaGreatDoorQD
namespace Go.Proofs.YtgljfgkkolfnbaaGreatDoor
open Go.RowKit

theorem xor_ones {x : Nat} (h : x < 4294967296) : x ^^^ 4294967295 = 4294967295 - x := by
  have e : ((BitVec.ofNat 32 x) ^^^ BitVec.allOnes 32) = ~~~(BitVec.ofNat 32 x) := BitVec.xor_allOnes
  have e2 := congrArg BitVec.toNat e
  simp [BitVec.toNat_not, Nat.mod_eq_of_lt h] at e2
  omega
theorem wordR_0 {z : Int} (h1 : -9007199254740991 ≤ z) (h2 : z ≤ 9007199254740991) : wordR 0 z = z % 4294967296 := by
  have v : IsV 0 z := .inl ⟨rfl, h1, h2⟩
  unfold wordR
  rw [vk_of v, vn_of v]
  rfl
theorem bitR_is (op : Int) (ho : op = 1 ∨ op = 2 ∨ op = 3) (k n l m : Int) : bitR op k n l m = ⟨0, bitN op (wordR k n) (wordR l m)⟩ := by
  unfold bitR
  rw [if_pos (by omega)]
theorem sg_bd {z : Int} (h0 : 0 ≤ z) (h1 : z < 4294967296) : -2147483648 ≤ sg z ∧ sg z < 2147483648 := by
  unfold sg
  split <;> omega
theorem sg_mod {z : Int} (h0 : 0 ≤ z) (h1 : z < 4294967296) : sg z % 4294967296 = z := by
  unfold sg
  split <;> omega
/-- What a number's 32 bits make. -/
theorem bits_all (a b : Int) : ∃ A B : Int, bitR 2 a b 0 0 = ⟨0, A⟩ ∧ bitR 3 a b 0 (-1) = ⟨0, B⟩ ∧ bitR 3 0 B 0 (-1) = ⟨0, A⟩ ∧ bitR 3 a b a b = ⟨0, 0⟩ ∧ bitR 1 a b a b = ⟨0, A⟩ ∧ -2147483648 ≤ A ∧ A < 2147483648 ∧ -1 - A = B := by
  obtain ⟨h0, h1⟩ := word_bd a b
  obtain ⟨w, hw⟩ : ∃ w : Nat, wordR a b = w := ⟨(wordR a b).toNat, by omega⟩
  have hlt : w < 4294967296 := by omega
  have e0 : wordR 0 0 = 0 := by decide
  have e1 : wordR 0 (-1) = 4294967295 := by decide
  have hx : (w : Int).toNat = w := by omega
  have hX : ((w ^^^ 4294967295 : Nat) : Int) = 4294967295 - w := by rw [xor_ones hlt]; omega
  have hB : sg (4294967295 - (w : Int)) = -1 - sg w := by unfold sg; split <;> split <;> omega
  obtain ⟨b1, b2⟩ := sg_bd (z := (w : Int)) (by omega) (by omega)
  refine ⟨sg w, -1 - sg w, ?_, ?_, ?_, ?_, ?_, b1, b2, rfl⟩
  · rw [bitR_is _ (by omega), hw, e0, bitN2]
    simp [hx]
  · rw [bitR_is _ (by omega), hw, e1, bitN3, hx]
    show (⟨0, sg ((w ^^^ 4294967295 : Nat) : Int)⟩ : Nm) = _
    rw [hX, hB]
  · have e2 : wordR 0 (-1 - sg (w : Int)) = 4294967295 - w := by
      rw [wordR_0 (by omega) (by omega), ← hB]
      exact sg_mod (by omega) (by omega)
    have e3 : (4294967295 - (w : Int)).toNat = 4294967295 - w := by omega
    rw [bitR_is _ (by omega), e2, e1, bitN3, e3]
    show (⟨0, sg (((4294967295 - w) ^^^ 4294967295 : Nat) : Int)⟩ : Nm) = _
    rw [xor_ones (by omega), show ((4294967295 - (4294967295 - w) : Nat) : Int) = w by omega]
  · rw [bitR_is _ (by omega), hw, bitN3]
    simp [hx]
    rfl
  · rw [bitR_is _ (by omega), hw, bitN1]
    simp [hx]
end Go.Proofs.YtgljfgkkolfnbaaGreatDoor
