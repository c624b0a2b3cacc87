/- The document's own copy of a row of ints; rows of truths. -/
import Derived.WalkKit
import Derived.WalkSpells
import Derived.WalkLawsBesides
import Derived.Handy
import Derived.Deep.RegionHeld3
import Derived.Deep.DeepCutAuto
import Derived.Deep.QuietTactic
import Derived.BigQuiet
import Derived.Lib.Hide
import Derived.KernelRfl
import Derived.WalkMore
import Derived.Deep.LoopGhost
import Derived.IntWalk
import Derived.Deep.RegionLaw
import Derived.RangeFuncBox
import Derived.Laws.AppendOwn
import Derived.Deep.OwnRows
import Derived.Lib.SliceRun
import Derived.Test.YtmfdlcicbiincaaDoorE11
import Derived.Test.YtmfdlcicbiincaaDoorE17
namespace Go.Proofs.YtmfdlcicbiincaaDoor
open Go.RowKit


set_option maxRecDepth 100000 in
set_option maxHeartbeats 4000000 in
theorem copyI_c (A : Option Addr) (xs : List Int) (n c : Nat) (w : World) (h : Ar .i64 w A xs n c) (hl : n ≤ 1048576) :
    Calls Tryd.prog 24 #[.slice A n c] w (RetRow .i64 3 xs w) := by
  obtain ⟨h, rfl, _, _⟩ := h
  obtain ⟨i0, hi, hz0, hz1, hz2⟩ := info_parts infoInt
  have H := Lib.hid h
  rcases A with _ | ad
  · have h0 : xs = [] := by
      rcases xs with _ | ⟨x, xs⟩
      · rfl
      · obtain ⟨g, o, e, _⟩ := h (by simp)
        cases e
    subst h0
    clear h
    go_enter Tryd.func24, Tryd.ntmps24
    go_wp2
    go_ret
    exact ⟨_, _, rfl, World.ownsRow_made w #[] 0 (Nat.le_refl _) (Nat.zero_le _) rfl, Plus.alloc (Plus.refl _) _⟩
  · clear h
    go_enter Tryd.func24, Tryd.ntmps24
    go_wp2_with (at_builtin; refine wpList_append_own _ rfl _ _ 40 rfl w.heap.size 3 i0 (.int .i64 0) 1 8 Tryd.underlying40 hi hz0 hz1 hz2 rfl (by decide) _ _ _ rfl (World.ownsRow_made w #[] 0 (Nat.le_refl _) (Nat.zero_le _) rfl) ad xs.length c (vals .i64 xs) rfl (by rw [vals_len, Nat.mul_one]) (H.out.alloc _).news (one_vals .i64 xs) (by unfold maxLen; omega) (by omega) (by simp) ?_; intro v1 w1 hown1 hgr1 _; have HW1 := Lib.hid hown1; have HG1 := Lib.hid hgr1; clear hown1 hgr1)
    go_ret
    have ho := HW1.out
    rw [Nat.zero_add, List.nil_append] at ho
    obtain ⟨D, k, rfl⟩ := row_form ho
    exact ⟨D, k, rfl, ho, Plus.of_below (((Below.refl _ w).alloc (Nat.le_refl _) _).grown HG1.out (by simp) (fun k hk => by have hk' : some w.heap.size = some k := hk; injection hk' with hk'; omega))⟩
/-- A row that a call made may be written. -/
theorem own_row {k : IntKind} {w : World} {b e c : Nat} {D : Option Addr} {xs : List Int} (h : w.ownsRow b e 1 (.slice D xs.length c) xs.length (vals k xs)) (h0 : 0 < xs.length) : ∃ g, D = some ⟨g, 0, none⟩ ∧ b ≤ g ∧ Own k w g xs ∧ xs.length ≤ c ∧ c ≤ 9223372036854775807 := by
  rcases h.2 with ⟨_, h0'⟩ | ⟨g, cap, cur, ev, hb, hg, hl, hm, hs, ht⟩
  · omega
  · injection ev with e1 e2 e3
    subst e1 e3
    refine ⟨g, rfl, hb, ⟨cur, e, hg, fun j hj => ?_⟩, hl, by unfold maxLen at hm; exact hm⟩
    have e1 : cur[j]? = cur.toList[j]? := by simp
    have e2 : (cur.toList.take (xs.length * 1))[j]? = cur.toList[j]? := by rw [List.getElem?_take, if_pos (by omega)]
    rw [e1, ← e2, ht]
    unfold vals
    rw [List.getElem?_map, List.getElem?_eq_getElem hj, List.getD_eq_getElem?_getD, List.getElem?_eq_getElem hj]
    rfl
/-- Block g holds the truths bs. -/
def OwnB (w : World) (g : Nat) (bs : List Bool) : Prop := ∃ cur e, w.heap[g]? = some (.cells cur e (0, 0)) ∧ ∀ j, j < bs.length → cur[j]? = some (.bool (bs.getD j false))
section
variable {w w' : World} {bs : List Bool} {g : Nat}
theorem OwnB.lt (h : OwnB w g bs) : g < w.heap.size := by
  obtain ⟨cur, e, hh, _⟩ := h
  exact (Array.getElem?_eq_some_iff.1 hh).1
theorem OwnB.cell (h : OwnB w g bs) {j : Nat} (hj : j < bs.length) : w.cell? ⟨g, j, none⟩ = some (.bool (bs.getD j false)) := by
  obtain ⟨cur, e, hh, hc⟩ := h
  rw [cell_of_row w g j cur e (0, 0) hh]
  exact hc j hj
theorem OwnB.frozen (h : OwnB w g bs) (j : Nat) : w.frozen? ⟨g, j, none⟩ = false := by
  obtain ⟨cur, e, hh, hc⟩ := h
  simp [World.frozen?, hh]
theorem OwnB.plus (h : OwnB w g bs) (hp : Plus w w') : OwnB w' g bs := by
  obtain ⟨cur, e, hh, hc⟩ := h
  exact ⟨cur, e, (hp.below.block g (Array.getElem?_eq_some_iff.1 hh).1).trans hh, hc⟩
theorem OwnB.set (h : OwnB w g bs) {j : Nat} {v : Bool} (hj : j < bs.length) : OwnB (w.setCell ⟨g, j, none⟩ (.bool v)) g (bs.set j v) := by
  obtain ⟨cur, e, hh, hc⟩ := h
  refine ⟨cur.setIfInBounds j (.bool v), e, ?_, fun i hi => ?_⟩
  · simp [World.setCell, Array.getElem?_modify, hh]
  · rw [List.length_set] at hi
    rw [Array.getElem?_setIfInBounds]
    by_cases hij : j = i
    · subst hij
      have hlt : j < cur.size := (Array.getElem?_eq_some_iff.1 (hc j hj)).1
      rw [if_pos rfl, if_pos hlt]
      rw [List.getD_eq_getElem?_getD, List.getElem?_set_self hj]
      rfl
    · rw [if_neg hij, hc i hi]
      rw [List.getD_eq_getElem?_getD, List.getD_eq_getElem?_getD, List.getElem?_set_ne hij]
theorem OwnB.zeros (w : World) (n : Nat) (t : TypeId) (cs : Array Value) (hc : cs = Array.replicate n (.bool false)) : OwnB (w.alloc (.cells cs t)) w.heap.size (List.replicate n false) := by
  subst hc
  refine ⟨_, t, heap_alloc_new w _, fun j hj => ?_⟩
  simp at hj
  rw [Array.getElem?_replicate, if_pos hj, List.getD_eq_getElem?_getD, List.getElem?_replicate, if_pos hj]
  rfl
end
theorem infoBool : (Tryd.prog.info? 4).map (fun i => (i.zero, i.size, i.bytes)) = some (some (.bool false), 1, 1) := by kernel_rfl
theorem madeB (K : Nat) : madeCells #[.bool false] K = Array.replicate K (.bool false) := by
  apply Array.toList_inj.1
  rw [toList_madeCells_one]
  simp
theorem getD_setB {xs : List Bool} {j i : Nat} {v : Bool} (hj : j < xs.length) : (xs.set j v).getD i false = if i = j then v else xs.getD i false := by
  rw [List.getD_eq_getElem?_getD, List.getD_eq_getElem?_getD]
  by_cases h : i = j
  · subst h
    rw [if_pos rfl, List.getElem?_set_self hj]
    rfl
  · rw [if_neg h, List.getElem?_set_ne (fun e => h e.symm)]
end Go.Proofs.YtmfdlcicbiincaaDoor
