/- Decimal digits with noughts ahead, as a text's number and key. -/
import Derived.Test.YtdckonlipinblaaGreatDoorT2
namespace Go.Proofs.YtdckonlipinblaaGreatDoor
open Go.RowKit


theorem pu_dd : ∀ (m : Nat), m ≤ 9007199254740991 → ∀ r, Lib.parseUint10 0 (Lib.decDigits m ++ r) = Lib.parseUint10 m r := fun m => by
  induction m using Nat.strongRecOn with
  | _ m ih =>
    intro hm r
    by_cases h : m < 10
    · rw [Lib.decDigits_one h]
      have e : (UInt8.ofNat (48 + m)).toNat = 48 + m := by rw [UInt8.toNat_ofNat']; omega
      show Lib.parseUint10 0 (UInt8.ofNat (48 + m) :: r) = _
      rw [Lib.parseUint10, e, if_pos (by omega), if_neg (by omega), if_neg (by omega)]
      congr 1
      omega
    · rw [Lib.decDigits, dif_neg h, List.append_assoc, ih (m / 10) (by omega) (by omega)]
      have e : (UInt8.ofNat (48 + m % 10)).toNat = 48 + m % 10 := by rw [UInt8.toNat_ofNat']; omega
      show Lib.parseUint10 (m / 10) (UInt8.ofNat (48 + m % 10) :: r) = _
      rw [Lib.parseUint10, e, if_pos (by omega), if_neg (by omega), if_neg (by omega)]
      congr 1
      omega
theorem atoi_dd {m : Nat} (hm : m ≤ 9007199254740991) : Lib.atoiAll (Lib.decDigits m) = .ok (m : Int) := by
  have h := pu_dd m hm []
  rw [List.append_nil] at h
  obtain ⟨c, r, e, h1, h2⟩ := dd_cons m
  rw [e] at h ⊢
  have h3 : Lib.parseMag (c :: r) = .ok m := by
    unfold Lib.parseMag
    rw [if_neg (by simp), h]
    rfl
  unfold Lib.atoiAll
  simp only
  rw [if_neg (by omega), h3]
  simp only
  rw [if_neg (by omega), if_neg (by omega), if_neg (by omega)]
theorem not_name {l : List UInt8} (h : ∀ x ∈ l, 48 ≤ x.toNat ∧ x.toNat ≤ 57) (d : UInt8) (r : List UInt8) (hd : d.toNat < 48 ∨ 57 < d.toNat) : l ≠ d :: r := by
  rintro rfl
  have := h d (by simp)
  omega
theorem par_dd {m : Nat} (hm : m ≤ 9007199254740991) : parS (Lib.decDigits m) = ⟨0, m, true⟩ := by
  unfold parS
  rw [if_neg (not_name (dd_dig m) 78 _ (by decide)), if_neg (not_name (dd_dig m) 73 _ (by decide)), if_neg (not_name (dd_dig m) 45 _ (by decide)), atoi_dd hm]
  simp only
  rw [if_pos (Lib.itoa_nonneg m)]
  unfold ofS
  rw [if_pos (by omega)]
theorem dd_ne (m : Nat) : Lib.decDigits m ≠ [] := by
  obtain ⟨c, r, e, _⟩ := dd_cons m
  rw [e]
  simp
end Go.Proofs.YtdckonlipinblaaGreatDoor
