/- The walk of TextBlanks. -/
import Derived.IntWalk
import Derived.Test.YtdckonlipinblaaGreatDoorR2
namespace Go.Proofs.YtdckonlipinblaaGreatDoor
open Go.RowKit


def blankB (x : Nat) : Bool := x == 32 || x == 9 || x == 10 || x == 13
theorem dw_all {p : UInt8 → Bool} : ∀ a b : List UInt8, (∀ x ∈ a, p x = true) → (a ++ b).dropWhile p = b.dropWhile p
  | [], _, _ => rfl
  | x :: a, b, h => by
    rw [List.cons_append, List.dropWhile_cons, if_pos (h x (by simp))]
    exact dw_all a b fun y hy => h y (List.mem_cons_of_mem _ hy)
theorem dw_some {p : UInt8 → Bool} : ∀ a b : List UInt8, (∃ x ∈ a, p x = false) → (a ++ b).dropWhile p = a.dropWhile p ++ b
  | [], _, h => by obtain ⟨x, hx, _⟩ := h; simp at hx
  | x :: a, b, h => by
    rw [List.cons_append, List.dropWhile_cons, List.dropWhile_cons]
    by_cases q : p x = true
    · rw [if_pos q, if_pos q]
      refine dw_some a b ?_
      obtain ⟨y, hy, hy2⟩ := h
      rcases List.mem_cons.1 hy with e | e
      · rw [e, q] at hy2; cases hy2
      · exact ⟨y, e, hy2⟩
    · rw [if_neg q, if_neg q]; rfl
theorem trim_around (c b1 l b2 : List UInt8) (h1 : ∀ x ∈ b1, c.contains x = true) (h2 : ∀ x ∈ b2, c.contains x = true) : Lib.trimS (b1 ++ l ++ b2) c = Lib.trimS l c := by
  unfold Lib.trimS
  have e1 : Lib.trimRightS (b1 ++ l ++ b2) c = Lib.trimRightS (b1 ++ l) c := by
    unfold Lib.trimRightS
    rw [List.reverse_append, dw_all _ _ (fun x hx => h2 x (List.mem_reverse.1 hx))]
  rw [e1]
  by_cases hl : ∃ x ∈ l, c.contains x = false
  · have e2 : Lib.trimRightS (b1 ++ l) c = b1 ++ Lib.trimRightS l c := by
      unfold Lib.trimRightS
      rw [List.reverse_append, dw_some _ _ (by obtain ⟨x, hx, hx2⟩ := hl; exact ⟨x, List.mem_reverse.2 hx, hx2⟩), List.reverse_append, List.reverse_reverse]
    rw [e2]
    unfold Lib.trimLeftS
    exact dw_all _ _ h1
  · have hl2 : ∀ x ∈ l, c.contains x = true := fun x hx => by
      cases q : c.contains x
      · exact absurd ⟨x, hx, q⟩ hl
      · rfl
    have e3 : Lib.trimRightS l c = [] := by
      unfold Lib.trimRightS
      have := dw_all (p := (c.contains ·)) l.reverse [] (fun x hx => hl2 x (List.mem_reverse.1 hx))
      rw [List.append_nil] at this
      rw [this]
      rfl
    have e4 : Lib.trimRightS (b1 ++ l) c = [] := by
      unfold Lib.trimRightS
      have := dw_all (p := (c.contains ·)) (b1 ++ l).reverse [] (fun x hx => by
        rcases List.mem_append.1 (List.mem_reverse.1 hx) with h | h
        · exact h1 x h
        · exact hl2 x h)
      rw [List.append_nil] at this
      rw [this]
      rfl
    rw [e3, e4]
theorem blank_in {b : List Nat} (h : b.all blankB = true) : ∀ x ∈ b.map Nat.toUInt8, blankS.contains x = true := fun x hx => by
  obtain ⟨y, hy, rfl⟩ := List.mem_map.1 hx
  have := List.all_eq_true.1 h y hy
  unfold blankB at this
  simp at this
  rcases this with ((rfl | rfl) | rfl) | rfl <;> decide
theorem blank_low {b : List Nat} (h : b.all blankB = true) : low b = true := by
  unfold low
  rw [List.all_eq_true] at h ⊢
  intro x hx
  have := h x hx
  unfold blankB at this
  simp at this
  simp
  omega
theorem num_around {b1 xs b2 : List Nat} (h1 : b1.all blankB = true) (h2 : b2.all blankB = true) : numU (b1 ++ xs ++ b2) = numU xs := by
  have e : low (b1 ++ xs ++ b2) = low xs := by
    have l1 := blank_low h1
    have l2 := blank_low h2
    unfold low at l1 l2 ⊢
    rw [List.all_append, List.all_append, l1, l2]
    simp
  unfold numU
  rw [e, List.map_append, List.map_append, trim_around _ _ _ _ (blank_in h1) (blank_in h2)]
end Go.Proofs.YtdckonlipinblaaGreatDoor
