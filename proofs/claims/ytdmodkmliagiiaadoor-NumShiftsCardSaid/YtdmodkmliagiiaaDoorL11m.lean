/- Plain facts for NumShifts: bits moved. -/
import Derived.Test.YtdmodkmliagiiaaDoorV
import Derived.Test.YtdmodkmliagiiaaDoorM5
import Derived.Test.YtdmodkmliagiiaaDoorB9
namespace Go.Proofs.YtdmodkmliagiiaaDoor
open Go.RowKit

theorem word_z {z : Int} (h0 : -9007199254740991 ≤ z) (h1 : z ≤ 9007199254740991) : wordR 0 z = z % 4294967296 := by
  have hv : IsV 0 z := .inl ⟨rfl, h0, h1⟩
  unfold wordR
  rw [vk_of hv, vn_of hv]
  rfl
theorem pow_bd (s : Int) (h0 : 0 ≤ s) (h1 : s ≤ 20) : (1 : Int) ≤ 2 ^ s.toNat ∧ (2 : Int) ^ s.toNat ≤ 1048576 := by
  have h2 : (2 : Nat) ^ s.toNat ≤ 2 ^ 20 := Nat.pow_le_pow_right (by decide) (by omega)
  have h3 : (((2 : Nat) ^ s.toNat : Nat) : Int) ≤ ((2 ^ 20 : Nat) : Int) := Int.ofNat_le.2 h2
  have h4 : (0 : Int) < 2 ^ s.toNat := Int.pow_pos (by decide)
  exact ⟨by omega, by simpa using h3⟩
theorem sg_mod (u : Int) : ∃ k, sg u = u + 4294967296 * k := by
  unfold sg
  split
  · exact ⟨0, by omega⟩
  · exact ⟨-1, by omega⟩
theorem mul_plain {x p : Int} (hx0 : -2147483648 ≤ x) (hx1 : x < 2147483648) (hp0 : 1 ≤ p) (hp1 : p ≤ 1048576) :
    (mulR 0 x 0 p).ok = true ∧ wordR (mulR 0 x 0 p).k (mulR 0 x 0 p).n = x * p % 4294967296 := by
  have vx : IsV 0 x := .inl ⟨rfl, by omega, by omega⟩
  have vp : IsV 0 p := .inl ⟨rfl, by omega, by omega⟩
  have hzp : zeroB 0 p = false := by simp [zeroB]; omega
  have b1 : x * p ≤ 2147483648 * 1048576 := Int.mul_le_mul (by omega) hp1 (by omega) (by decide)
  have b2 : -2147483648 * 1048576 ≤ x * p := by
    have := Int.mul_le_mul (a := -x) (b := p) (c := 2147483648) (d := 1048576) (by omega) hp1 (by omega) (by decide)
    rw [Int.neg_mul] at this
    omega
  by_cases h0 : x = 0
  · subst h0
    have e : mulR 0 0 0 p = ⟨zeroK (!(negB 0 0 == negB 0 p)), 0, true⟩ := by
      unfold mulR mulS
      rw [vk_of vx, vn_of vx, vk_of vp, vn_of vp, hzp]
      simp [zeroB]
    rw [e]
    refine ⟨rfl, ?_⟩
    have hk : zeroK (!(negB 0 0 == negB 0 p)) = 0 ∨ zeroK (!(negB 0 0 == negB 0 p)) = 1 := by unfold zeroK; split <;> simp
    generalize zeroK (!(negB 0 0 == negB 0 p)) = k at *
    rw [Int.zero_mul]
    show wordR k 0 = 0 % 4294967296
    rcases hk with rfl | rfl <;> kernel_rfl
  · have hzx : zeroB 0 x = false := by simp [zeroB, h0]
    have e : mulR 0 x 0 p = ⟨0, x * p, true⟩ := by
      unfold mulR mulS
      rw [vk_of vx, vn_of vx, vk_of vp, vn_of vp, hzp, hzx]
      simp only [ofS]
      rw [if_pos (c := -9007199254740991 ≤ x * p ∧ x * p ≤ 9007199254740991) (by omega)]
      simp
    rw [e]
    exact ⟨rfl, word_z (z := x * p) (by omega) (by omega)⟩
theorem sg_mul (u p : Int) : sg u * p % 4294967296 = u * p % 4294967296 := by
  obtain ⟨k, hk⟩ := sg_mod u
  rw [hk, Int.add_mul, Int.mul_assoc, Int.add_mul_emod_self_left]
theorem floor_bd {x p : Int} (hp : 1 ≤ p) : x / p * p ≤ x ∧ x < (x / p + 1) * p := by
  have h1 := Int.emod_add_mul_ediv x p
  have h2 := Int.emod_nonneg x (show p ≠ 0 by omega)
  have h3 := Int.emod_lt_of_pos x (show 0 < p by omega)
  have e : p * (x / p) = x / p * p := Int.mul_comm _ _
  rw [Int.add_mul]
  omega
end Go.Proofs.YtdmodkmliagiiaaDoor
