/- The document's numbers: Whole, Less, Equal, Index, Text. -/
import Derived.Test.YtakahpbondaidaaGreatDoorPZK
import Derived.Test.YtakahpbondaidaaGreatDoorPZJ
namespace Go.Proofs.YtakahpbondaidaaGreatDoor
open Go.RowKit

/-- A struct of two ints lies in block b. -/
def Box (w : World) (b : Nat) (k n : Int) : Prop := w.cell? ⟨b, 0, none⟩ = some (.int .i64 k) ∧ w.cell? ⟨b, 1, none⟩ = some (.int .i64 n) ∧ w.frozen? ⟨b, 0, none⟩ = false ∧ w.frozen? ⟨b, 1, none⟩ = false ∧ b < w.heap.size
theorem Box.plus {W w' : World} {b : Nat} {k n : Int} (h : Box W b k n) (hp : Plus W w') : Box w' b k n :=
  ⟨by rw [hp.cell _ _ h.2.2.2.2]; exact h.1, by rw [hp.cell _ _ h.2.2.2.2]; exact h.2.1, by rw [hp.frozen _ _ h.2.2.2.2]; exact h.2.2.1, by rw [hp.frozen _ _ h.2.2.2.2]; exact h.2.2.2.1, Nat.lt_of_lt_of_le h.2.2.2.2 hp.size⟩
theorem Box.new (w : World) (k n : Int) (t : TypeId) : Box (w.alloc (.cells #[.int .i64 k, .int .i64 n] t)) w.heap.size k n :=
  ⟨by rw [World.cell?_alloc_at _ _ _ _ rfl]; rfl, by rw [World.cell?_alloc_at _ _ _ _ rfl]; rfl, World.frozen?_alloc_at _ _ _ _ rfl, World.frozen?_alloc_at _ _ _ _ rfl, by rw [World.size_alloc]; exact Nat.lt_succ_self _⟩
theorem Box.alloc {w : World} {b : Nat} {k n : Int} (h : Box w b k n) (o : Obj) : Box (w.alloc o) b k n := h.plus ((Plus.refl _).alloc o)
theorem Box.grow {w : World} {b : Nat} {k n : Int} (h : Box w b k n) (x : More) : Box (YtakahpbondaidaaGreatDoor.plus w x) b k n := h.plus ⟨x, rfl⟩
theorem Box.drew {w : World} {b : Nat} {k n : Int} (h : Box w b k n) : Box w.drew b k n := h.plus (Plus.refl _).drew
theorem Box.new' {w : World} {b : Nat} {k n : Int} {t : TypeId} (h : b = w.heap.size) : Box (w.alloc (.cells #[.int .i64 k, .int .i64 n] t)) b k n := by
  subst h
  exact Box.new w k n t
theorem lt_three (n : Nat) : n < n + 1 + 1 + 1 := by omega
theorem lt_three' (n : Nat) : n + 1 < n + 1 + 1 + 1 := by omega
theorem box_S3 {k n l m : Int} {w w' : World} (h : Plus (((w.alloc (.cells #[.int .i64 k, .int .i64 n] 23)).alloc (.cells #[.int .i64 l, .int .i64 m] 23)).alloc (.cells #[.int .i64 0, .int .i64 0] 23)) w') : Plus (((w.alloc (.cells #[.int .i64 k, .int .i64 n] 23)).alloc (.cells #[.int .i64 l, .int .i64 m] 23)).alloc (.cells #[.int .i64 0, .int .i64 0] 23)) w' ∧ w'.cell? ⟨w.heap.size, 0, none⟩ = some (.int .i64 k) ∧ w'.cell? ⟨w.heap.size, 1, none⟩ = some (.int .i64 n) ∧ w'.cell? ⟨w.heap.size + 1, 0, none⟩ = some (.int .i64 l) ∧ w'.cell? ⟨w.heap.size + 1, 1, none⟩ = some (.int .i64 m) := by
  refine ⟨h, ?_, ?_, ?_, ?_⟩
  · rw [h.cell _ _ (by simp only [World.size_alloc]; exact lt_three _)]; simp [go_sem]
  · rw [h.cell _ _ (by simp only [World.size_alloc]; exact lt_three _)]; simp [go_sem]
  · rw [h.cell _ _ (by simp only [World.size_alloc]; exact lt_three' _)]; simp [go_sem]
  · rw [h.cell _ _ (by simp only [World.size_alloc]; exact lt_three' _)]; simp [go_sem]
theorem box_r {k n l m : Int} {w w' : World} (h : Plus (((w.alloc (.cells #[.int .i64 k, .int .i64 n] 23)).alloc (.cells #[.int .i64 l, .int .i64 m] 23)).alloc (.cells #[.int .i64 0, .int .i64 0] 23)) w') : Box w' (w.heap.size + 1 + 1) 0 0 :=
  (Box.new' (by simp only [World.size_alloc])).plus h
theorem Plus.of_alloc {w w' : World} {o : Obj} (h : Plus (w.alloc o) w') : Plus w w' := ((Plus.refl w).alloc o).trans h

class HasCell (w : World) (n i : Nat) : Prop where out : ∃ u, w.cell? ⟨n, i, none⟩ = some u
instance (w : World) (n i : Nat) (a : Addr) (v : Value) [h : HasCell w n i] : HasCell (w.setCell a v) n i := ⟨by
  obtain ⟨u, hu⟩ := h.out
  obtain ⟨v', hy⟩ := cell?_setCell_some (w := w) (p := a) (x := v) (q := ⟨n, i, none⟩) (v := u) hu
  exact ⟨_, hy⟩⟩
@[go_sem] theorem cell?_setCell_has (w : World) (n i : Nat) (v : Value) [h : HasCell w n i] : (w.setCell ⟨n, i, none⟩ v).cell? ⟨n, i, none⟩ = some v := by
  obtain ⟨u, hu⟩ := h.out
  simp [go_sem, hu]

end Go.Proofs.YtakahpbondaidaaGreatDoor
