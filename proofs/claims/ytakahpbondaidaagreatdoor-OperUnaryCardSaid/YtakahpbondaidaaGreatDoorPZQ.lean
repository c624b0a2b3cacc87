/- renref2: times, divide. -/
import Derived.Test.YtakahpbondaidaaGreatDoorPZP
import Derived.Test.YtakahpbondaidaaGreatDoorPZH
namespace Go.Proofs.YtakahpbondaidaaGreatDoor.Bg
open Go.RowKit

/-- Block b is a box of a sign and a slice. -/
def BoxO (w : World) (b : Nat) (p : Bool) (A : Option Addr) (n c : Nat) : Prop := w.heap[b]? = some (.cells #[.bool p, .slice A n c] 26)
section
variable {w w' : World} {b n c : Nat} {p : Bool} {A : Option Addr}
theorem BoxO.lt (h : BoxO w b p A n c) : b < w.heap.size := (Array.getElem?_eq_some_iff.1 h).1
theorem BoxO.below (h : BoxO w b p A n c) (hp : Below w.heap.size w w') : BoxO w' b p A n c := (hp.block b h.lt).trans h
theorem BoxO.plus' (h : BoxO w b p A n c) (hp : Plus w w') : BoxO w' b p A n c := h.below hp.below
theorem BoxO.alloc (h : BoxO w b p A n c) (o : Obj) : BoxO (w.alloc o) b p A n c := h.plus' ((Plus.refl _).alloc o)
theorem BoxO.grow (h : BoxO w b p A n c) (x : More) : BoxO (_root_.Go.Proofs.YtakahpbondaidaaGreatDoor.plus w x) b p A n c := h.plus' (Plus.is x)
theorem BoxO.drew (h : BoxO w b p A n c) : BoxO w.drew b p A n c := h
theorem BoxO.new' (h : b = w.heap.size) : BoxO (w.alloc (.cells #[.bool p, .slice A n c] 26)) b p A n c := by
  subst h
  exact Array.getElem?_push_size
theorem BoxO.cells (h : BoxO w b p A n c) : w.cell? ⟨b, 0, none⟩ = some (.bool p) ∧ w.cell? ⟨b, 1, none⟩ = some (.slice A n c) ∧ w.frozen? ⟨b, 0, none⟩ = false ∧ w.frozen? ⟨b, 1, none⟩ = false := by
  have h' : w.heap[b]? = some (.cells #[.bool p, .slice A n c] 26) := h
  refine ⟨?_, ?_, ?_, ?_⟩
  · simp only [World.cell?, h']; rfl
  · simp only [World.cell?, h']; rfl
  · simp only [World.frozen?, h']; rfl
  · simp only [World.frozen?, h']; rfl
end
/-- W' is W, what stands in some boxes aside. -/
def Alt (W W' : World) : Prop := W.heap.size = W'.heap.size ∧ ∀ k : Nat, W'.heap[k]? = W.heap[k]? ∨ ∃ o o', W.heap[k]? = some o ∧ isBox o ∧ W'.heap[k]? = some o' ∧ isBox o'
section
variable {W W' : World}
theorem Alt.refl (W : World) : Alt W W := ⟨rfl, fun _ => .inl rfl⟩
theorem Alt.box (h : Alt W W') {o o' : Obj} (ho : isBox o) (ho' : isBox o') : Alt (W.alloc o) (W'.alloc o') := by
  refine ⟨by rw [World.size_alloc, World.size_alloc, h.1], fun k => ?_⟩
  rcases Nat.lt_trichotomy k W.heap.size with hk | hk | hk
  · rw [Below.heap_alloc _ _ _ hk, Below.heap_alloc _ _ _ (by rw [← h.1]; exact hk)]
    exact h.2 k
  · subst hk
    refine .inr ⟨o, o', Array.getElem?_push_size, ho, ?_, ho'⟩
    rw [h.1]
    exact Array.getElem?_push_size
  · left
    rw [Array.getElem?_eq_none (by rw [World.size_alloc]; have := h.1; omega), Array.getElem?_eq_none (by rw [World.size_alloc]; have := h.1; omega)]
theorem Alt.alloc (h : Alt W W') (o : Obj) : Alt (W.alloc o) (W'.alloc o) := by
  refine ⟨by rw [World.size_alloc, World.size_alloc, h.1], fun k => ?_⟩
  rcases Nat.lt_trichotomy k W.heap.size with hk | hk | hk
  · rw [Below.heap_alloc _ _ _ hk, Below.heap_alloc _ _ _ (by rw [← h.1]; exact hk)]
    exact h.2 k
  · subst hk
    left
    have e1 : (W.alloc o).heap[W.heap.size]? = some o := Array.getElem?_push_size
    have e2 : (W'.alloc o).heap[W'.heap.size]? = some o := Array.getElem?_push_size
    rw [e1, h.1, e2]
  · left
    rw [Array.getElem?_eq_none (by rw [World.size_alloc]; have := h.1; omega), Array.getElem?_eq_none (by rw [World.size_alloc]; have := h.1; omega)]
theorem Alt.grow (h : Alt W W') (x : More) : Alt (_root_.Go.Proofs.YtakahpbondaidaaGreatDoor.plus W x) (_root_.Go.Proofs.YtakahpbondaidaaGreatDoor.plus W' x) := by
  refine ⟨by rw [size_plus, size_plus, h.1], fun k => ?_⟩
  rcases Nat.lt_or_ge k W.heap.size with hk | hk
  · rw [heap_plus_lt _ _ hk, heap_plus_lt _ _ (by rw [← h.1]; exact hk)]
    exact h.2 k
  · left
    show (W'.heap ++ x.blocks.toArray)[k]? = (W.heap ++ x.blocks.toArray)[k]?
    rw [Array.getElem?_append_right hk, Array.getElem?_append_right (by rw [← h.1]; exact hk), h.1]
theorem Alt.drewL (h : Alt W W') : Alt W.drew W' := h
theorem Alt.drewR (h : Alt W W') : Alt W W'.drew := h
theorem Alt.trans {W'' : World} (h : Alt W W') (k : Alt W' W'') : Alt W W'' := by
  refine ⟨h.1.trans k.1, fun i => ?_⟩
  rcases h.2 i with e1 | ⟨o, o', a1, a2, a3, a4⟩
  · rcases k.2 i with e2 | ⟨q, q', b1, b2, b3, b4⟩
    · exact .inl (e2.trans e1)
    · exact .inr ⟨q, q', by rw [← e1]; exact b1, b2, b3, b4⟩
  · rcases k.2 i with e2 | ⟨q, q', b1, b2, b3, b4⟩
    · exact .inr ⟨o, o', a1, a2, by rw [e2]; exact a3, a4⟩
    · exact .inr ⟨o, q', a1, a2, b3, b4⟩
/-- W' came after W: boxes written, blocks made. -/
def Later (W W' : World) : Prop := ∃ W1, Alt W W1 ∧ Plus W1 W'
theorem Later.of_alt (h : Alt W W') : Later W W' := ⟨W', h, Plus.refl _⟩
theorem Later.alloc (h : Later W W') (o : Obj) : Later W (W'.alloc o) := by
  obtain ⟨W1, h1, h2⟩ := h
  exact ⟨W1, h1, h2.alloc o⟩
theorem Later.grow (h : Later W W') (x : More) : Later W (_root_.Go.Proofs.YtakahpbondaidaaGreatDoor.plus W' x) := by
  obtain ⟨W1, h1, h2⟩ := h
  exact ⟨W1, h1, h2.plus x⟩
theorem Later.drew (h : Later W W') : Later W W'.drew := by
  obtain ⟨W1, h1, h2⟩ := h
  exact ⟨W1, h1, h2.drew⟩
theorem Lim.alt' {A : Option Addr} {xs : List Nat} (h : Lim W A xs) (a : Alt W W') : Lim W' A xs :=
  h.alt (fun k => W'.heap[k]? ≠ W.heap[k]?) (Nat.le_of_eq a.1) (fun g hg => by
    rcases a.2 g with e | ⟨o, _, e, ho, _⟩
    · exact (hg e).elim
    · exact ⟨o, e, ho⟩) (fun _ hk => Classical.not_not.1 hk)
theorem Lim.later {A : Option Addr} {xs : List Nat} (h : Lim W A xs) (a : Later W W') : Lim W' A xs := by
  obtain ⟨W1, h1, h2⟩ := a
  exact (h.alt' h1).plus h2
theorem Arg.later {A : Option Addr} {xs : List Nat} {n c : Nat} (h : Arg W A xs n c) (a : Later W W') : Arg W' A xs n c := ⟨h.lim.later a, h.len, h.few, h.cap, h.max⟩
end

class HasCell (w : World) (n i : Nat) : Prop where out : ∃ u, w.cell? ⟨n, i, none⟩ = some u
instance (w : World) (n i : Nat) (a : Addr) (v : Value) [h : HasCell w n i] : HasCell (w.setCell a v) n i := ⟨by
  obtain ⟨u, hu⟩ := h.out
  obtain ⟨v', hy⟩ := cell?_setCell_some (w := w) (p := a) (x := v) (q := ⟨n, i, none⟩) (v := u) hu
  exact ⟨_, hy⟩⟩
@[go_sem] theorem cell?_setCell_has (w : World) (n i : Nat) (v : Value) [h : HasCell w n i] : (w.setCell ⟨n, i, none⟩ v).cell? ⟨n, i, none⟩ = some v := by
  obtain ⟨u, hu⟩ := h.out
  simp [go_sem, hu]
theorem _root_.Go.Proofs.YtakahpbondaidaaGreatDoor.Plus.setCell {w w' : World} (h : Plus w w') {p : Addr} (hp : w.heap.size ≤ p.block) (v : Value) : Plus w (w'.setCell p v) := .of_below (h.below.setCell hp v)


end Go.Proofs.YtakahpbondaidaaGreatDoor.Bg
