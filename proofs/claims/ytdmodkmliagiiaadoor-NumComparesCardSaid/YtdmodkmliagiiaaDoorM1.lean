/- How numbers are compared: the plain facts. -/
import Derived.Test.YtdmodkmliagiiaaDoorS
namespace Go.Proofs.YtdmodkmliagiiaaDoor

theorem place_inj {p q r s : Int} (h1 : IsV p q) (h2 : IsV r s) (hp : p ≠ 2) (hr : r ≠ 2) (h : place p q = place r s) : (p = r ∧ q = s) ∨ (q = 0 ∧ s = 0 ∧ (p = 0 ∨ p = 1)) := by
  rcases h1 with ⟨rfl, a1, a2⟩ | ⟨rfl, rfl⟩ | ⟨rfl, rfl⟩ | ⟨rfl, rfl⟩ | ⟨rfl, rfl⟩ <;> rcases h2 with ⟨rfl, b1, b2⟩ | ⟨rfl, rfl⟩ | ⟨rfl, rfl⟩ | ⟨rfl, rfl⟩ | ⟨rfl, rfl⟩ <;> simp [place] at h hp hr ⊢ <;> omega

/-- Of two numbers one of seven things holds. -/
theorem cmp_cases (k n l m : Int) :
    (lessR k n l m = true ∧ lessR l m k n = false ∧ equalR k n l m = false ∧ equalR k n k n = true ∧ equalR l m l m = true ∧ sameR k n l m = false) ∨
    (lessR k n l m = false ∧ lessR l m k n = true ∧ equalR k n l m = false ∧ equalR k n k n = true ∧ equalR l m l m = true ∧ sameR k n l m = false) ∨
    (lessR k n l m = false ∧ lessR l m k n = false ∧ equalR k n l m = true ∧ equalR k n k n = true ∧ equalR l m l m = true ∧ sameR k n l m = true) ∨
    (lessR k n l m = false ∧ lessR l m k n = false ∧ equalR k n l m = true ∧ equalR k n k n = true ∧ equalR l m l m = true ∧ sameR k n l m = false ∧ equalR k n 0 0 = true) ∨
    (lessR k n l m = false ∧ lessR l m k n = false ∧ equalR k n l m = false ∧ equalR k n k n = false ∧ sameR k n l m = true) ∨
    (lessR k n l m = false ∧ lessR l m k n = false ∧ equalR k n l m = false ∧ equalR k n k n = false ∧ sameR k n l m = false) ∨
    (lessR k n l m = false ∧ lessR l m k n = false ∧ equalR k n l m = false ∧ equalR k n k n = true ∧ equalR l m l m = false ∧ sameR k n l m = false) := by
  have h1 := isV_v k n
  have h2 := isV_v l m
  have z1 : vk 0 0 = 0 := rfl
  have z2 : vn 0 0 = 0 := rfl
  unfold lessR equalR sameR
  rw [z1, z2]
  generalize vk k n = p at *
  generalize vn k n = q at *
  generalize vk l m = r at *
  generalize vn l m = s at *
  unfold lessS equalS
  by_cases hp : p = 2
  · subst hp
    have hq : q = 0 := by unfold IsV at h1; omega
    subst hq
    by_cases hr : r = 2
    · subst hr
      have hs : s = 0 := by unfold IsV at h2; omega
      subst hs
      simp
    · have e : ((2 : Int) == r) = false := by simp; omega
      simp [e]
  · have ep : (p == 2) = false := by simpa using hp
    by_cases hr : r = 2
    · subst hr
      simp [ep]
    · have er : (r == 2) = false := by simpa using hr
      simp only [ep, er, Bool.not_false, Bool.true_and, beq_self_eq_true]
      rcases Int.lt_trichotomy (place p q) (place r s) with h | h | h
      · have h3 : ¬ place r s < place p q := by omega
        have h4 : (place p q == place r s) = false := by simp; omega
        have h5 : (p == r && q == s) = false := by
          by_cases e1 : p = r <;> by_cases e2 : q = s <;> simp [e1, e2]
          subst e1 e2; omega
        simp [h, h3, h4, h5]
      · have h3 : ¬ place r s < place p q := by omega
        have h4 : ¬ place p q < place r s := by omega
        rcases place_inj h1 h2 hp hr h with ⟨rfl, rfl⟩ | ⟨rfl, rfl, h0⟩
        · simp
        · have h6 : place p 0 = place 0 0 := by rcases h0 with rfl | rfl <;> rfl
          have h8 : place r 0 = place 0 0 := h.symm.trans h6
          cases h7 : (p == r && (0 : Int) == 0)
          · simp [h6, h8]
          · simp [h6, h8]
      · have h3 : ¬ place p q < place r s := by omega
        have h4 : (place p q == place r s) = false := by simp; omega
        have h5 : (p == r && q == s) = false := by
          by_cases e1 : p = r <;> by_cases e2 : q = s <;> simp [e1, e2]
          subst e1 e2; omega
        simp [h, h3, h4, h5]
theorem same_swap (k n l m : Int) : sameR l m k n = sameR k n l m := by
  unfold sameR
  rw [Bool.eq_iff_iff]
  simp
  omega
end Go.Proofs.YtdmodkmliagiiaaDoor
