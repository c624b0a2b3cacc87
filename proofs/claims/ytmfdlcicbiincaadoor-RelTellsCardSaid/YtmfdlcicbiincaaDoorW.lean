/- Rows of integers in memory. -/
import Derived.WalkKit
import Derived.Deep.Draws
import Derived.Deep.Quiet
import Derived.WalkSmall
import Derived.Deep.OwnRows
import Derived.DataReads
import Derived.Lib.Hide
import Derived.Test.YtmfdlcicbiincaaDoorP
namespace Go.Proofs.YtmfdlcicbiincaaDoor
open Go.RowKit

theorem block_of_add (a : Addr) (n : Nat) : (a.add n).block = a.block := by unfold Addr.add; split <;> rfl
theorem add_addr (g o j : Nat) : (⟨g, o, none⟩ : Addr).add j = ⟨g, o + j, none⟩ := by unfold Addr.add; split <;> simp_all
theorem zero_add_addr (g j : Nat) : (⟨g, 0, none⟩ : Addr).add j = ⟨g, j, none⟩ := by unfold Addr.add; split <;> simp_all
/-- The cells from g, o on read as the numbers xs. -/
def At (k : IntKind) (w : World) (g o : Nat) (xs : List Int) : Prop := ∀ j, j < xs.length → w.cell? ⟨g, o + j, none⟩ = some (.int k (xs.getD j 0))
/-- The slice at A reads as the numbers xs. -/
def Rd (k : IntKind) (w : World) (A : Option Addr) (xs : List Int) : Prop := 0 < xs.length → ∃ g o, A = some ⟨g, o, none⟩ ∧ g < w.heap.size ∧ At k w g o xs
section
variable {w w' : World} {A : Option Addr} {xs : List Int} {g o : Nat} {k : IntKind}
theorem At.keep (h : At k w g o xs) (hk : w'.heap[g]? = w.heap[g]?) : At k w' g o xs := fun j hj => (World.cell?_of_block (w := w) hk).trans (h j hj)
theorem At.below {B : Nat} (h : At k w g o xs) (hb : Below B w w') (hg : g < B) : At k w' g o xs := h.keep (hb.block g hg)
theorem At.plus (h : At k w g o xs) (hg : g < w.heap.size) (hp : Plus w w') : At k w' g o xs := h.below hp.below hg
theorem At.drew (h : At k w g o xs) : At k w.drew g o xs := h
theorem getD_drop (xs : List Int) (n j : Nat) : (xs.drop n).getD j 0 = xs.getD (n + j) 0 := by
  rw [List.getD_eq_getElem?_getD, List.getD_eq_getElem?_getD, List.getElem?_drop]
theorem At.drop (h : At k w g o xs) (n : Nat) : At k w g (o + n) (xs.drop n) := fun j hj => by
  rw [List.length_drop] at hj
  rw [getD_drop, Nat.add_assoc]
  exact h (n + j) (by omega)
theorem getD_take {xs : List Int} {n j : Nat} (h : j < n) : (xs.take n).getD j 0 = xs.getD j 0 := by
  rw [List.getD_eq_getElem?_getD, List.getD_eq_getElem?_getD, List.getElem?_take, if_pos h]
theorem At.take (h : At k w g o xs) (n : Nat) : At k w g o (xs.take n) := fun j hj => by
  rw [List.length_take] at hj
  rw [getD_take (by omega)]
  exact h j (by omega)
theorem getD_mem {xs : List Int} {j : Nat} (h : j < xs.length) : xs.getD j 0 ∈ xs := by
  rw [List.getD_eq_getElem?_getD, List.getElem?_eq_getElem h]
  exact List.getElem_mem h
theorem Rd.nil : Rd k w A [] := fun h => absurd h (by simp)
theorem Rd.keep (h : Rd k w A xs) (hs : w.heap.size ≤ w'.heap.size) (hk : ∀ b, A.map (·.block) = some b → b < w.heap.size → w'.heap[b]? = w.heap[b]?) : Rd k w' A xs := fun h0 => by
  obtain ⟨g, o, rfl, hg, hc⟩ := h h0
  exact ⟨g, o, rfl, by omega, hc.keep (hk g rfl hg)⟩
theorem Rd.below (h : Rd k w A xs) (hb : Below w.heap.size w w') : Rd k w' A xs := h.keep hb.size fun b _ hk => hb.block b hk
theorem Rd.plus (h : Rd k w A xs) (hp : Plus w w') : Rd k w' A xs := h.below hp.below
theorem Rd.drew (h : Rd k w A xs) : Rd k w.drew A xs := h
theorem Rd.alloc (h : Rd k w A xs) (o : Obj) : Rd k (w.alloc o) A xs := h.keep (by simp) fun b _ hk => Below.heap_alloc _ _ _ hk
theorem Rd.grown (h : Rd k w A xs) {row : Option Nat} (hg : w.grownBy w' row) (hr : ∀ ad, A = some ad → some ad.block ≠ row) : Rd k w' A xs :=
  h.keep hg.size fun b hk hlt => hg.block b hlt (by
    cases A with
    | none => simp at hk
    | some ad => simp at hk; subst hk; exact hr ad rfl)
theorem Rd.at_ (h : Rd k w A xs) {j : Nat} (hj : j < xs.length) : ∃ g o, A = some ⟨g, o, none⟩ ∧ g < w.heap.size ∧ At k w g o xs := h (by omega)
theorem Rd.take (h : Rd k w A xs) (n : Nat) : Rd k w A (xs.take n) := fun h0 => by
  rw [List.length_take] at h0
  obtain ⟨g, o, e, hg, hc⟩ := h (by omega)
  exact ⟨g, o, e, hg, hc.take n⟩
end
/-- An argument: its numbers lie in memory. -/
structure Ar (k : IntKind) (w : World) (A : Option Addr) (xs : List Int) (n c : Nat) : Prop where
  rd : Rd k w A xs
  len : n = xs.length
  cap : n ≤ c
  max : c ≤ 9223372036854775807
section
variable {w w' : World} {A : Option Addr} {xs : List Int} {n c : Nat} {k : IntKind}
theorem Ar.plus (h : Ar k w A xs n c) (hp : Plus w w') : Ar k w' A xs n c := ⟨h.rd.plus hp, h.len, h.cap, h.max⟩
theorem Ar.drew (h : Ar k w A xs n c) : Ar k w.drew A xs n c := ⟨h.rd.drew, h.len, h.cap, h.max⟩
theorem Ar.nil (w : World) (c : Nat) (hc : c ≤ 9223372036854775807) (A : Option Addr) : Ar k w A [] 0 c := ⟨Rd.nil, rfl, Nat.zero_le _, hc⟩
end

/-- Block g holds the numbers xs, and perhaps more. -/
def Own (k : IntKind) (w : World) (g : Nat) (xs : List Int) : Prop :=
  ∃ cur e, w.heap[g]? = some (.cells cur e (0, 0)) ∧ ∀ j, j < xs.length → cur[j]? = some (.int k (xs.getD j 0))
section
variable {w w' : World} {xs : List Int} {g : Nat} {k : IntKind}
theorem Own.lt (h : Own k w g xs) : g < w.heap.size := by
  obtain ⟨cur, e, hh, _⟩ := h
  exact (Array.getElem?_eq_some_iff.1 hh).1
theorem Own.cell (h : Own k w g xs) {j : Nat} (hj : j < xs.length) : w.cell? ⟨g, j, none⟩ = some (.int k (xs.getD j 0)) := by
  obtain ⟨cur, e, hh, hc⟩ := h
  rw [cell_of_row w g j cur e (0, 0) hh]
  exact hc j hj
theorem Own.frozen (h : Own k w g xs) (j : Nat) : w.frozen? ⟨g, j, none⟩ = false := by
  obtain ⟨cur, e, hh, hc⟩ := h
  simp [World.frozen?, hh]
theorem Own.rd (h : Own k w g xs) : Rd k w (some ⟨g, 0, none⟩) xs := fun _ => ⟨g, 0, rfl, h.lt, fun j hj => by rw [Nat.zero_add]; exact h.cell hj⟩
theorem Own.block (h : Own k w g xs) (hk : w'.heap[g]? = w.heap[g]?) : Own k w' g xs := by
  obtain ⟨cur, e, hh, hc⟩ := h
  exact ⟨cur, e, hk.trans hh, hc⟩
theorem Own.below {B : Nat} (h : Own k w g xs) (hb : Below B w w') (hg : g < B) : Own k w' g xs := h.block (hb.block g hg)
theorem Own.alloc (h : Own k w g xs) (o : Obj) : Own k (w.alloc o) g xs := h.block (Below.heap_alloc _ _ _ h.lt)
theorem Own.set (h : Own k w g xs) {j : Nat} {v : Int} (hj : j < xs.length) : Own k (w.setCell ⟨g, j, none⟩ (.int k v)) g (xs.set j v) := by
  obtain ⟨cur, e, hh, hc⟩ := h
  refine ⟨cur.setIfInBounds j (.int k v), e, ?_, fun i hi => ?_⟩
  · simp [World.setCell, Array.getElem?_modify, hh]
  · rw [List.length_set] at hi
    rw [Array.getElem?_setIfInBounds]
    by_cases hij : j = i
    · subst hij
      have hlt : j < cur.size := (Array.getElem?_eq_some_iff.1 (hc j hj)).1
      rw [if_pos rfl, if_pos hlt]
      rw [List.getD_eq_getElem?_getD, List.getElem?_set_self hj]
      rfl
    · rw [if_neg hij, hc i hi]
      rw [List.getD_eq_getElem?_getD, List.getD_eq_getElem?_getD, List.getElem?_set_ne hij]
/-- New zeros. -/
theorem Own.zeros (k : IntKind) (w : World) (n : Nat) (t : TypeId) (cs : Array Value) (hc : cs = Array.replicate n (.int k 0)) : Own k (w.alloc (.cells cs t)) w.heap.size (List.replicate n 0) := by
  subst hc
  refine ⟨_, t, heap_alloc_new w _, fun j hj => ?_⟩
  simp at hj
  rw [Array.getElem?_replicate, if_pos hj, List.getD_eq_getElem?_getD, List.getElem?_replicate, if_pos hj]
  rfl
end
/-- Numbers as cells. -/
def vals (k : IntKind) (xs : List Int) : List Value := xs.map fun x => .int k x
theorem vals_app (k : IntKind) (xs ys : List Int) : vals k (xs ++ ys) = vals k xs ++ vals k ys := List.map_append
theorem vals_len (k : IntKind) (xs : List Int) : (vals k xs).length = xs.length := List.length_map _
/-- A row that the call made, read as a slice. -/
theorem rd_of_own {k : IntKind} {w : World} {b e : Nat} {v : Value} {xs : List Int} (h : w.ownsRow b e 1 v xs.length (vals k xs)) : ∃ A c, v = .slice A xs.length c ∧ xs.length ≤ c ∧ c ≤ 9223372036854775807 ∧ Rd k w A xs := by
  rcases h.2 with ⟨rfl, h0⟩ | ⟨g, cap, cur, rfl, hb, hg, hl, hm, hs, ht⟩
  · have : xs = [] := List.eq_nil_of_length_eq_zero h0
    subst this
    exact ⟨none, 0, rfl, Nat.le_refl _, by omega, Rd.nil⟩
  · refine ⟨some ⟨g, 0, none⟩, cap, rfl, hl, by unfold maxLen at hm; exact hm, fun h0 => ⟨g, 0, rfl, (Array.getElem?_eq_some_iff.1 hg).1, fun j hj => ?_⟩⟩
    rw [Nat.zero_add, cell_of_row w g j cur e (0, 0) hg]
    have e1 : cur[j]? = cur.toList[j]? := by simp
    have e2 : (cur.toList.take (xs.length * 1))[j]? = cur.toList[j]? := by rw [List.getElem?_take, if_pos (by omega)]
    rw [e1, ← e2, ht]
    unfold vals
    rw [List.getElem?_map, List.getElem?_eq_getElem hj, List.getD_eq_getElem?_getD, List.getElem?_eq_getElem hj]
    rfl
end Go.Proofs.YtmfdlcicbiincaaDoor
