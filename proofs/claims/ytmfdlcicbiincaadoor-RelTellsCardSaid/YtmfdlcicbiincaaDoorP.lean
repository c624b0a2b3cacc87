/- A world that has grown: new blocks, some draws, all else as it was. -/
import Derived.WalkKit
import Derived.Deep.Draws
import Derived.Deep.Quiet
import Derived.WalkSmall
namespace Go.Proofs.YtmfdlcicbiincaaDoor
open Go.RowKit

/-- What a world has grown by: new blocks; the count of draws. -/
structure More where
  blocks : List Obj
  draws : Nat
instance : Inhabited More := ⟨⟨[], 0⟩⟩
/-- 'w' with the blocks x.blocks behind its own, the count of draws at x.draws. -/
def plus (w : World) (x : More) : World := { w with heap := w.heap ++ x.blocks.toArray, drawn := x.draws }

section
variable (w : World) (x y : More)

@[go_sem] theorem size_plus : (plus w x).heap.size = w.heap.size + x.blocks.length := by simp [plus]

theorem heap_plus_lt {k : Nat} (h : k < w.heap.size) : (plus w x).heap[k]? = w.heap[k]? := by
  simp only [plus]
  rw [Array.getElem?_append_left h]

theorem cell?_plus (n i : Nat) (hn : n < w.heap.size) : (plus w x).cell? ⟨n, i, none⟩ = w.cell? ⟨n, i, none⟩ := World.cell?_of_block (w := w) (heap_plus_lt w x hn)
theorem frozen?_plus (n i : Nat) (hn : n < w.heap.size) : (plus w x).frozen? ⟨n, i, none⟩ = w.frozen? ⟨n, i, none⟩ := World.frozen?_of_block (w := w) (heap_plus_lt w x hn)

theorem setCell_plus (n i : Nat) (v : Value) (hn : n < w.heap.size) : (plus w x).setCell ⟨n, i, none⟩ v = plus (w.setCell ⟨n, i, none⟩ v) x := by
  unfold World.setCell plus
  congr 1
  apply Array.ext_getElem?
  intro k
  by_cases hk : k < w.heap.size
  · rw [Array.getElem?_modify, Array.getElem?_append_left hk, Array.getElem?_append_left (by simpa using hk), Array.getElem?_modify]
  · rw [Array.getElem?_modify]
    have hne : n ≠ k := by omega
    simp only [hne, if_false]
    rw [Array.getElem?_append_right (by omega), Array.getElem?_append_right (by simpa using hk)]
    simp

@[go_sem] theorem plus_drew : plus w.drew x = plus w x := rfl
@[go_sem] theorem plus_drewN (n : Nat) : plus (w.drewN n) x = plus w x := rfl

theorem plus_plus : plus (plus w x) y = plus w ⟨x.blocks ++ y.blocks, y.draws⟩ := by
  simp [plus, Array.append_assoc]

theorem plus_nil : plus w ⟨[], w.drawn⟩ = w := by simp [plus]
end

/-- Block n is there in w. -/
class Old (n : Nat) (w : World) : Prop where lt : n < w.heap.size
/-- n is how many blocks w has. -/
class AtEnd (n : Nat) (w : World) : Prop where eq : n = w.heap.size

instance (w : World) : AtEnd w.heap.size w := ⟨rfl⟩
instance (n : Nat) (w : World) (o : Obj) [h : AtEnd n w] : AtEnd (n + 1) (w.alloc o) := ⟨by rw [World.size_alloc, h.eq]⟩
instance (n : Nat) (w : World) (x : More) [h : AtEnd n w] : AtEnd (n + x.blocks.length) (plus w x) := ⟨by rw [size_plus, h.eq]⟩
instance (n : Nat) (w : World) [h : AtEnd n w] : AtEnd n w.drew := ⟨h.eq⟩
instance (n m : Nat) (w : World) [h : AtEnd n w] : AtEnd n (w.drewN m) := ⟨h.eq⟩
instance (n : Nat) (w : World) (o : Obj) [h : AtEnd n w] : Old n (w.alloc o) := ⟨by rw [World.size_alloc, h.eq]; exact Nat.lt_succ_self _⟩
instance (n : Nat) (w : World) (o : Obj) [h : Old n w] : Old n (w.alloc o) := ⟨by rw [World.size_alloc]; exact Nat.lt_succ_of_lt h.lt⟩
instance (n : Nat) (w : World) (x : More) [h : Old n w] : Old n (plus w x) := ⟨by rw [size_plus]; exact Nat.lt_add_right _ h.lt⟩
instance (n : Nat) (w : World) [h : Old n w] : Old n w.drew := ⟨h.lt⟩
instance (n m : Nat) (w : World) [h : Old n w] : Old n (w.drewN m) := ⟨h.lt⟩
instance (n : Nat) (w : World) (a : Addr) (v : Value) [h : Old n w] : Old n (w.setCell a v) := ⟨by rw [World.size_setCell]; exact h.lt⟩

section
variable (w : World) (x : More) (o : Obj) (n i : Nat) (v : Value) [h : Old n w]
@[go_sem] theorem cell?_plus' : (plus w x).cell? ⟨n, i, none⟩ = w.cell? ⟨n, i, none⟩ := cell?_plus w x n i h.lt
@[go_sem] theorem frozen?_plus' : (plus w x).frozen? ⟨n, i, none⟩ = w.frozen? ⟨n, i, none⟩ := frozen?_plus w x n i h.lt
@[go_sem] theorem setCell_plus' : (plus w x).setCell ⟨n, i, none⟩ v = plus (w.setCell ⟨n, i, none⟩ v) x := setCell_plus w x n i v h.lt
@[go_sem] theorem cell?_alloc' : (w.alloc o).cell? ⟨n, i, none⟩ = w.cell? ⟨n, i, none⟩ := World.cell?_alloc_past o n i h.lt
@[go_sem] theorem frozen?_alloc' : (w.alloc o).frozen? ⟨n, i, none⟩ = w.frozen? ⟨n, i, none⟩ := World.frozen?_alloc_past o n i h.lt
@[go_sem] theorem setCell_alloc' : (w.alloc o).setCell ⟨n, i, none⟩ v = (w.setCell ⟨n, i, none⟩ v).alloc o := World.setCell_alloc_past o n i v h.lt
end
section
variable (w : World) (c : Array Value) (t : TypeId) (n i : Nat) (v : Value) [h : AtEnd n w]
@[go_sem] theorem cell?_alloc_end : (w.alloc (.cells c t)).cell? ⟨n, i, none⟩ = c[i]? := World.cell?_alloc_at c t n i h.eq
@[go_sem] theorem frozen?_alloc_end : (w.alloc (.cells c t)).frozen? ⟨n, i, none⟩ = false := World.frozen?_alloc_at c t n i h.eq
@[go_sem] theorem setCell_alloc_end : (w.alloc (.cells c t)).setCell ⟨n, i, none⟩ v = w.alloc (.cells (c.setIfInBounds i v) t) := World.setCell_alloc_at c t n i v h.eq
end

/-- w' is w, grown. -/
def Plus (w w' : World) : Prop := ∃ x, w' = plus w x
theorem Plus.refl (w : World) : Plus w w := ⟨_, (plus_nil w).symm⟩
theorem Plus.plus {w w' : World} (h : Plus w w') (x : More) : Plus w (plus w' x) := by
  obtain ⟨y, rfl⟩ := h
  exact ⟨_, plus_plus w y x⟩
theorem Plus.trans {a b c : World} (h : Plus a b) (k : Plus b c) : Plus a c := by
  obtain ⟨y, rfl⟩ := k
  exact h.plus y
theorem Plus.below {w w' : World} (h : Plus w w') : Below w.heap.size w w' := by
  obtain ⟨x, rfl⟩ := h
  exact ⟨rfl, rfl, rfl, by rw [size_plus]; omega, fun k hk => heap_plus_lt w x hk⟩
theorem Plus.of_below {w w' : World} (h : Below w.heap.size w w') : Plus w w' := by
  obtain ⟨ho, ht, hu, hs, hb⟩ := h
  have hh : w'.heap = w.heap ++ (w'.heap.toList.drop w.heap.size).toArray := by
    apply Array.ext_getElem?
    intro k
    by_cases hk : k < w.heap.size
    · rw [Array.getElem?_append_left hk, hb k hk]
    · rw [Array.getElem?_append_right (by omega)]
      simp
      congr 1
      omega
  refine ⟨⟨w'.heap.toList.drop w.heap.size, w'.drawn⟩, ?_⟩
  unfold YtmfdlcicbiincaaDoor.plus
  rw [← hh]
  obtain ⟨heap, tape, drawn, os, output⟩ := w'
  simp only at ho ht hu
  subst ho ht hu
  rfl
theorem Plus.alloc {w w' : World} (h : Plus w w') (o : Obj) : Plus w (w'.alloc o) :=
  h.trans (.of_below ((Below.refl _ _).alloc (Nat.le_refl _) o))
theorem Plus.drew {w w' : World} (h : Plus w w') : Plus w w'.drew :=
  h.trans (.of_below ((Below.refl _ _).drew))
theorem Plus.drewN {w w' : World} (h : Plus w w') (n : Nat) : Plus w (w'.drewN n) :=
  h.trans (.of_below (below_drewN (Below.refl _ _) n))

theorem Plus.is {w : World} (x : More) : Plus w (YtmfdlcicbiincaaDoor.plus w x) := ⟨x, rfl⟩

/-- A region that draws its order, whose operations only read and whose callees leave a world that has grown: one walk in the order of the text. -/
theorem wp_region_plus {P : Program} {id : Nat} {Q : Exit → Act → World → Prop} {a : Act} {w : World} {l : List Oper} (hm : P.follows .mixedOrders = true) (hB : Region.lexB .any l.toArray = true)
    (h : wpQuiet P l.toArray (fun w' => ∃ x, w' = YtmfdlcicbiincaaDoor.plus w x) (fun a' => ∀ w', (∃ x, w' = YtmfdlcicbiincaaDoor.plus w x) → Q .normal a' w') l a) : (Code.region id l.toArray true).wp P Q a w :=
  wp_region_quiet (C := fun w' => ∃ x, w' = YtmfdlcicbiincaaDoor.plus w x) hm hB ⟨⟨[], w.drawn + 1⟩, by simp [YtmfdlcicbiincaaDoor.plus]⟩ (by simpa using h)

theorem calls_plus {P : Program} {f : FuncId} {args : Array Value} {w : World} {x : More} {v : Value}
    (h : Calls P f args (YtmfdlcicbiincaaDoor.plus w x) fun e w' => e = .returned v ∧ Plus (YtmfdlcicbiincaaDoor.plus w x) w') : Calls P f args (YtmfdlcicbiincaaDoor.plus w x) fun e w'' => e = .returned v ∧ ∃ y, w'' = YtmfdlcicbiincaaDoor.plus w y :=
  h.mono fun _ _ ⟨he, hp⟩ => ⟨he, (Plus.is x).trans hp⟩

end Go.Proofs.YtmfdlcicbiincaaDoor
