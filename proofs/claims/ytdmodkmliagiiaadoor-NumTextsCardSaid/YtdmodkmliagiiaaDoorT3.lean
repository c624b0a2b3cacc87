/- Digits as a number's text. -/
import Derived.Test.YtdmodkmliagiiaaDoorT2
namespace Go.Proofs.YtdmodkmliagiiaaDoor
open Go.RowKit

theorem dd_dig : ∀ (m : Nat), ∀ x ∈ Lib.decDigits m, 48 ≤ x.toNat ∧ x.toNat ≤ 57 := fun m => by
  induction m using Nat.strongRecOn with
  | _ m ih =>
    intro x hx
    by_cases h : m < 10
    · rw [Lib.decDigits_one h] at hx
      simp only [List.mem_singleton] at hx
      subst hx
      rw [UInt8.toNat_ofNat']
      omega
    · rw [Lib.decDigits, dif_neg h] at hx
      rcases List.mem_append.1 hx with h1 | h1
      · exact ih (m / 10) (by omega) x h1
      · simp only [List.mem_singleton] at h1
        subst h1
        rw [UInt8.toNat_ofNat']
        omega
theorem dd_head : ∀ (m : Nat), 0 < m → ∃ c r, Lib.decDigits m = c :: r ∧ c.toNat ≠ 48 := fun m => by
  induction m using Nat.strongRecOn with
  | _ m ih =>
    intro h0
    by_cases h : m < 10
    · refine ⟨_, _, Lib.decDigits_one h, ?_⟩
      rw [UInt8.toNat_ofNat']
      omega
    · obtain ⟨c, r, e, q⟩ := ih (m / 10) (by omega) (by omega)
      exact ⟨c, r ++ [UInt8.ofNat (48 + m % 10)], by rw [Lib.decDigits, dif_neg h, e]; rfl, q⟩
theorem dd_cons (m : Nat) : ∃ c r, Lib.decDigits m = c :: r ∧ 48 ≤ c.toNat ∧ c.toNat ≤ 57 := by
  rcases Nat.eq_zero_or_pos m with rfl | h
  · exact ⟨48, [], Lib.decDigits_one (by omega), by decide, by decide⟩
  · obtain ⟨c, r, e, _⟩ := dd_head m h
    have := dd_dig m c (by rw [e]; simp)
    exact ⟨c, r, e, this⟩
theorem not_name {l : List UInt8} (h : ∀ x ∈ l, 48 ≤ x.toNat ∧ x.toNat ≤ 57) (d : UInt8) (r : List UInt8) (hd : d.toNat < 48 ∨ 57 < d.toNat) : l ≠ d :: r := by
  rintro rfl
  have := h d (by simp)
  omega
theorem dd_ne (m : Nat) : Lib.decDigits m ≠ [] := by
  obtain ⟨c, r, e, _⟩ := dd_cons m
  rw [e]
  simp
theorem pu_all : ∀ (m : Nat), m ≤ 9223372036854775807 → ∀ r, Lib.parseUint10 0 (Lib.decDigits m ++ r) = Lib.parseUint10 m r := fun m => by
  induction m using Nat.strongRecOn with
  | _ m ih =>
    intro hm r
    by_cases h : m < 10
    · rw [Lib.decDigits_one h]
      have e : (UInt8.ofNat (48 + m)).toNat = 48 + m := by rw [UInt8.toNat_ofNat']; omega
      show Lib.parseUint10 0 (UInt8.ofNat (48 + m) :: r) = _
      rw [Lib.parseUint10, e, if_pos (by omega), if_neg (by omega), if_neg (by omega)]
      congr 1
      omega
    · rw [Lib.decDigits, dif_neg h, List.append_assoc, ih (m / 10) (by omega) (by omega)]
      have e : (UInt8.ofNat (48 + m % 10)).toNat = 48 + m % 10 := by rw [UInt8.toNat_ofNat']; omega
      show Lib.parseUint10 (m / 10) (UInt8.ofNat (48 + m % 10) :: r) = _
      rw [Lib.parseUint10, e, if_pos (by omega), if_neg (by omega), if_neg (by omega)]
      congr 1
      omega
theorem atoi_all {m : Nat} (hm : m ≤ 9223372036854775807) : Lib.atoiAll (Lib.decDigits m) = .ok (m : Int) := by
  have h := pu_all m hm []
  rw [List.append_nil] at h
  obtain ⟨c, r, e, h1, h2⟩ := dd_cons m
  rw [e] at h ⊢
  have h3 : Lib.parseMag (c :: r) = .ok m := by
    unfold Lib.parseMag
    rw [if_neg (by simp), h]
    rfl
  unfold Lib.atoiAll
  simp only
  rw [if_neg (by omega), h3]
  simp only
  rw [if_neg (by omega), if_neg (by omega), if_neg (by omega)]
theorem par_all {m : Nat} (hm : m ≤ 9223372036854775807) : parS (Lib.decDigits m) = if m ≤ 9007199254740991 then ⟨0, m, true⟩ else ofS m := by
  unfold parS
  rw [if_neg (not_name (dd_dig m) 78 _ (by decide)), if_neg (not_name (dd_dig m) 73 _ (by decide)), if_neg (not_name (dd_dig m) 45 _ (by decide)), atoi_all hm]
  simp only
  rw [if_pos (Lib.itoa_nonneg m)]
  split
  · unfold ofS
    rw [if_pos (by omega)]
  · rfl
theorem par_ok {m : Nat} (hm : m ≤ 9223372036854775807) : (parS (Lib.decDigits m)).ok = decide (m ≤ 9007199254740991) ∧ (m ≤ 9007199254740991 → (parS (Lib.decDigits m)).k = 0 ∧ (parS (Lib.decDigits m)).n = m) := by
  rw [par_all hm]
  by_cases h : m ≤ 9007199254740991
  · rw [if_pos h]; exact ⟨(decide_eq_true h).symm, fun _ => ⟨rfl, rfl⟩⟩
  · rw [if_neg h]
    unfold ofS
    rw [if_neg (by omega)]
    exact ⟨(decide_eq_false h).symm, fun q => absurd q h⟩
theorem itoa_neg {v : Int} (h : v < 0) : ∃ r, Lib.itoa v = 45 :: r := by
  unfold Lib.itoa
  rw [if_pos h]
  exact ⟨_, rfl⟩
end Go.Proofs.YtdmodkmliagiiaaDoor
