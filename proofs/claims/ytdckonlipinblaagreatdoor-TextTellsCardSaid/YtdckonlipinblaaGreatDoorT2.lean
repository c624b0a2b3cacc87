/- Decimal digits as a text's number. -/
import Derived.Test.YtdckonlipinblaaGreatDoorT1
namespace Go.Proofs.YtdckonlipinblaaGreatDoor
open Go.RowKit


theorem dd_dig : ∀ (m : Nat), ∀ x ∈ Lib.decDigits m, 48 ≤ x.toNat ∧ x.toNat ≤ 57 := fun m => by
  induction m using Nat.strongRecOn with
  | _ m ih =>
    intro x hx
    by_cases h : m < 10
    · rw [Lib.decDigits_one h] at hx
      simp only [List.mem_singleton] at hx
      subst hx
      rw [UInt8.toNat_ofNat']
      omega
    · rw [Lib.decDigits, dif_neg h] at hx
      rcases List.mem_append.1 hx with h1 | h1
      · exact ih (m / 10) (by omega) x h1
      · simp only [List.mem_singleton] at h1
        subst h1
        rw [UInt8.toNat_ofNat']
        omega
theorem dd_head : ∀ (m : Nat), 0 < m → ∃ c r, Lib.decDigits m = c :: r ∧ c.toNat ≠ 48 := fun m => by
  induction m using Nat.strongRecOn with
  | _ m ih =>
    intro h0
    by_cases h : m < 10
    · refine ⟨_, _, Lib.decDigits_one h, ?_⟩
      rw [UInt8.toNat_ofNat']
      omega
    · obtain ⟨c, r, e, q⟩ := ih (m / 10) (by omega) (by omega)
      exact ⟨c, r ++ [UInt8.ofNat (48 + m % 10)], by rw [Lib.decDigits, dif_neg h, e]; rfl, q⟩
theorem dd_cons (m : Nat) : ∃ c r, Lib.decDigits m = c :: r ∧ 48 ≤ c.toNat ∧ c.toNat ≤ 57 := by
  rcases Nat.eq_zero_or_pos m with rfl | h
  · exact ⟨48, [], Lib.decDigits_one (by omega), by decide, by decide⟩
  · obtain ⟨c, r, e, _⟩ := dd_head m h
    have := dd_dig m c (by rw [e]; simp)
    exact ⟨c, r, e, this⟩
theorem dw_none {p : UInt8 → Bool} : ∀ l : List UInt8, (∀ x ∈ l, p x = false) → l.dropWhile p = l
  | [], _ => rfl
  | x :: l, h => by rw [List.dropWhile_cons, if_neg (by rw [h x (by simp)]; simp)]
theorem trim_none (l c : List UInt8) (h : ∀ x ∈ l, c.contains x = false) : Lib.trimS l c = l := by
  unfold Lib.trimS Lib.trimRightS Lib.trimLeftS
  rw [dw_none l.reverse (fun x hx => h x (List.mem_reverse.1 hx)), List.reverse_reverse, dw_none l h]
theorem dw_to_nil {p : UInt8 → Bool} : ∀ l : List UInt8, (∀ x ∈ l, p x = true) → l.dropWhile p = []
  | [], _ => rfl
  | x :: l, h => by rw [List.dropWhile_cons, if_pos (h x (by simp))]; exact dw_to_nil l fun y hy => h y (List.mem_cons_of_mem _ hy)
theorem trim_all (l c : List UInt8) (h : ∀ x ∈ l, c.contains x = true) : Lib.trimS l c = [] := by
  unfold Lib.trimS Lib.trimRightS
  rw [dw_to_nil l.reverse (fun x hx => h x (List.mem_reverse.1 hx))]
  rfl
theorem dig_in {x : UInt8} (h : 48 ≤ x.toNat ∧ x.toNat ≤ 57) : digS.contains x = true ∧ blankS.contains x = false := by
  obtain ⟨h1, h2⟩ := h
  have hn : x.toNat = 48 ∨ x.toNat = 49 ∨ x.toNat = 50 ∨ x.toNat = 51 ∨ x.toNat = 52 ∨ x.toNat = 53 ∨ x.toNat = 54 ∨ x.toNat = 55 ∨ x.toNat = 56 ∨ x.toNat = 57 := by omega
  rcases hn with q | q | q | q | q | q | q | q | q | q
  · obtain rfl : x = 48 := UInt8.toNat_inj.1 q
    decide
  · obtain rfl : x = 49 := UInt8.toNat_inj.1 q
    decide
  · obtain rfl : x = 50 := UInt8.toNat_inj.1 q
    decide
  · obtain rfl : x = 51 := UInt8.toNat_inj.1 q
    decide
  · obtain rfl : x = 52 := UInt8.toNat_inj.1 q
    decide
  · obtain rfl : x = 53 := UInt8.toNat_inj.1 q
    decide
  · obtain rfl : x = 54 := UInt8.toNat_inj.1 q
    decide
  · obtain rfl : x = 55 := UInt8.toNat_inj.1 q
    decide
  · obtain rfl : x = 56 := UInt8.toNat_inj.1 q
    decide
  · obtain rfl : x = 57 := UInt8.toNat_inj.1 q
    decide
/-- One of digits, with noughts ahead. -/
theorem uns_dig {l : List UInt8} (h : ∀ x ∈ l, 48 ≤ x.toNat ∧ x.toNat ≤ 57) : unsT l = l ∧ Lib.hasPrefix l [45] = false := by
  have hp : ∀ b : UInt8, b.toNat < 48 → Lib.hasPrefix l [b] = false := fun b hb => by
    unfold Lib.hasPrefix
    cases l with
    | nil => rfl
    | cons c r =>
      have := h c (by simp)
      simp [List.isPrefixOf]
      intro e
      subst e
      omega
  unfold unsT Lib.trimPrefix
  rw [hp 45 (by decide), hp 43 (by decide)]
  simp
theorem num_dig {l : List UInt8} (h0 : l ≠ []) (h : ∀ x ∈ l, 48 ≤ x.toNat ∧ x.toNat ≤ 57) : numT (Lib.trimS l blankS) = ⟨(parS (wzT l)).k, (parS (wzT l)).n, (parS (wzT l)).ok⟩ := by
  rw [trim_none l blankS fun x hx => (dig_in (h x hx)).2]
  obtain ⟨h1, h2⟩ := uns_dig h
  unfold numT
  rw [if_neg h0, h1, h2, if_neg, if_pos ⟨h0, trim_all l digS fun x hx => (dig_in (h x hx)).1⟩]
  · rfl
  · rintro rfl
    exact absurd (h 73 (by decide)).2 (by decide)
theorem wz_dd (m : Nat) : wzT (Lib.decDigits m) = Lib.decDigits m := by
  rcases Nat.eq_zero_or_pos m with rfl | h
  · rw [Lib.decDigits_one (by omega)]; decide
  · obtain ⟨c, r, e, q⟩ := dd_head m h
    unfold wzT Lib.trimLeftS
    have hc : ([48] : List UInt8).contains c = false := by
      simp
      intro e
      exact q (by rw [e]; rfl)
    have hd : (c :: r).dropWhile (([48] : List UInt8).contains ·) = c :: r := by
      rw [List.dropWhile_cons]
      simp only [hc]
      rfl
    rw [e, hd]
    rfl
/-- What is a key is the digits of its number. -/
theorem par_key {l : List UInt8} {n : Int} {k : Int} (h : parS l = ⟨k, n, true⟩) (hk : k = 0) (h0 : 0 ≤ n) : l = Lib.decDigits n.toNat := by
  subst hk
  unfold parS at h
  split at h
  · simp at h
  split at h
  · simp at h
  split at h
  · simp at h
  split at h
  · rename_i v _
    split at h
    · rename_i hv
      unfold ofS at h
      split at h
      · simp at h
        subst h
        have e := Lib.itoa_nonneg v.toNat
        rw [Int.toNat_of_nonneg h0] at e
        rw [← hv]
        exact e
      · simp at h
    · simp at h
  · simp at h
end Go.Proofs.YtdckonlipinblaaGreatDoor
