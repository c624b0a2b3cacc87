/- Walk of EventLogs. -/
import Derived.WalkKit
import Derived.WalkSpells
import Derived.WalkLawsBesides
import Derived.Handy
import Derived.Deep.RegionHeld3
import Derived.Deep.DeepCutAuto
import Derived.Deep.QuietTactic
import Derived.BigQuiet
import Derived.Lib.Hide
import Derived.KernelRfl
import Derived.WalkMore
import Derived.Deep.LoopGhost
import Derived.IntWalk
import Derived.Test.YtcpmkfoelhopiaaR5
import Derived.Test.YtcpmkfoelhopiaaR10
import Derived.Test.YtcpmkfoelhopiaaR11
import Derived.Test.YtcpmkfoelhopiaaL5v
import Derived.Test.YtcpmkfoelhopiaaL3v
namespace Go.Proofs.Ytcpmkfoelhopiaa
open Go.RowKit

theorem rmay_s {l : List Ev} {ps : List Pr} {A B : Option Addr} {n c m d : Nat} {r : Bool} (w : World) (H : Hid (MayR l ps r)) (HS : Hid (SmL l)) (h : Lg w l ps A n c B m d) : Calls Try.prog 25 #[.agg #[.slice A n c, .slice B m d]] w fun e w' => e = .returned (.bool r) ∧ Plus w w' := by
  obtain ⟨rs, rfl, he⟩ := h.ev
  exact rmay_h w H he h.pa HS.out
theorem rhead_s {l l2 : List Ev} {ps qs : List Pr} {A B : Option Addr} {n c m d N M : Nat} {z : Int} (w : World) (H : Lg w l ps A n c B m d) (HS : Hid (SmL l)) (H2 : Hid (l.take (hdN z l.length) = l2 ∧ ps.filter (amB (hdN z l.length)) = qs ∧ N = l2.length ∧ M = qs.length)) (hl : n ≤ 100000) (hl2 : m ≤ 100000) : Calls Try.prog 23 #[.agg #[.slice A n c, .slice B m d], .int .i64 z] w (RetHs l2 qs N M w) := by
  obtain ⟨h1, h2, h3, h4⟩ := H2.out
  have hln := H.len.1
  obtain ⟨rs, rfl, he⟩ := H.ev
  have hp := H.pa
  obtain rfl := he.len
  obtain rfl := hp.len
  refine (rhead_x (N := hdN z rs.length) w he hp (sml_mem HS.out) hl hl2 (Lib.hid rfl)).mono ?_
  rintro e w' ⟨V, c1, V2, c2, he1, hL, hpp⟩
  rw [← hln] at h1 h2
  rw [h1, h2] at hL
  rw [h2, ← h4] at he1
  have hN : hdN z rs.length = N := by rw [h3, ← h1, List.length_take, List.length_map]; unfold hdN; omega
  rw [hN] at he1 hL
  rw [← h4] at hL
  exact ⟨V, c1, V2, c2, he1, hL, hpp⟩
/-- The From list is a row of the call's own, whatever it holds. -/
def OwnF (B : Nat) (w : World) (y : ER) : Prop := ∃ xs : List Int, xs.length = y.e.f.length ∧ w.ownsRow B 3 1 (.slice y.F y.e.f.length y.cf) y.e.f.length (vals .i64 xs)
theorem OwnF.plus {B : Nat} {w w' : World} {y : ER} (h : OwnF B w y) (hp : Plus w w') : OwnF B w' y := by
  obtain ⟨xs, h1, h2⟩ := h
  exact ⟨xs, h1, own_plus h2 hp⟩
theorem OwnF.at_ {B : Nat} {w : World} {y : ER} (h : OwnF B w y) {j : Nat} (hj : j < y.e.f.length) : ∃ g cur v, y.F = some ⟨g, 0, none⟩ ∧ B ≤ g ∧ w.heap[g]? = some (.cells cur 3 (0, 0)) ∧ w.cell? ⟨g, j, none⟩ = some (.int .i64 v) ∧ y.e.f.length ≤ y.cf := by
  obtain ⟨xs, h1, h2⟩ := h
  rcases h2.2 with ⟨e, h0⟩ | ⟨g, cap, cur, e, hb, hg, hl, hmx, hs, ht⟩
  · omega
  · injection e with e1 e2 e3
    subst e3
    refine ⟨g, cur, xs.getD j 0, e1, hb, hg, ?_, hl⟩
    rw [cell_of_row w g j cur 3 (0, 0) hg]
    have e2 : (cur.toList.take (y.e.f.length * 1))[j]? = cur.toList[j]? := by rw [List.getElem?_take, if_pos (by omega)]
    have e4 : cur[j]? = cur.toList[j]? := by simp
    rw [e4, ← e2, ht]
    unfold vals
    rw [List.getElem?_map, List.getElem?_eq_getElem (by omega), List.getD_eq_getElem?_getD, List.getElem?_eq_getElem (by omega)]
    rfl
theorem OwnF.set {B : Nat} {w : World} {y : ER} (h : OwnF B w y) {g j : Nat} {v : Int} {cur : Array Value} (hg : w.heap[g]? = some (.cells cur 3 (0, 0))) : OwnF B (w.setCell ⟨g, j, none⟩ (.int .i64 v)) y := by
  obtain ⟨xs, h1, h2⟩ := h
  rcases h2.2 with ⟨e, h0⟩ | ⟨g2, cap, cur2, e, hb, hg2, hl, hmx, hs, ht⟩
  · exact ⟨xs, h1, h2.1, .inl ⟨e, h0⟩⟩
  · by_cases hgg : g = g2
    · subst hgg
      rw [hg] at hg2
      injection hg2 with hg2
      injection hg2 with hg2 _ _
      subst hg2
      refine ⟨xs.set j v, by rw [List.length_set]; exact h1, by rw [vals_len, List.length_set, h1, Nat.mul_one], .inr ⟨g, cap, cur.setIfInBounds j (.int .i64 v), e, hb, ?_, hl, hmx, by rw [Array.size_setIfInBounds]; exact hs, ?_⟩⟩
      · simp [World.setCell, Array.getElem?_modify, hg]
      · rw [Array.toList_setIfInBounds, List.take_set, ht]
        unfold vals
        rw [List.map_set]
    · refine ⟨xs, h1, h2.1, .inr ⟨g2, cap, cur2, e, hb, ?_, hl, hmx, hs, ht⟩⟩
      simp only [World.setCell, Array.getElem?_modify, if_neg hgg]
      exact hg2
theorem ownF_of {B : Nat} {w : World} {y : ER} (h : OwnE B w y) : OwnF B w y := ⟨y.e.f, rfl, h.rf⟩
/-- Head's result: a log, its rows the call's own. -/
def RetHw (l : List Ev) (qs : List Pr) (n m : Nat) (w : World) (e : Ending) (w' : World) : Prop := ∃ (V : Option Addr) (c : Nat) (V2 : Option Addr) (c2 : Nat) (ys : List ER), e = .returned (.agg #[.slice V n c, .slice V2 m c2]) ∧ Lg w' l qs V n c V2 m c2 ∧ w'.ownsRow w.heap.size 25 10 (.slice V n c) n (rowE ys) ∧ (∀ y ∈ ys, OwnF w.heap.size w' y) ∧ ys.length = n ∧ Plus w w'
theorem head_w {l l2 : List Ev} {ps qs : List Pr} {A B : Option Addr} {n c m d N M : Nat} {z : Int} (w : World) (H : Lg w l ps A n c B m d) (HS : Hid (SmL l)) (H2 : Hid (l.take (hdN z l.length) = l2 ∧ ps.filter (amB (hdN z l.length)) = qs ∧ N = l2.length ∧ M = qs.length)) (hl : n ≤ 100000) (hl2 : m ≤ 100000) : Calls Try.prog 21 #[.agg #[.slice A n c, .slice B m d], .int .i64 z] w (RetHw l2 qs N M w) := by
  obtain ⟨h1, h2, h3, h4⟩ := H2.out
  have hln := H.len.1
  obtain ⟨rs, rfl, he⟩ := H.ev
  refine (head_n w he H.pa (sml_mem HS.out) hl hl2).mono ?_
  rintro e w' ⟨V, c1, ys, V2, c2, rfl, ho, hy, hq, hm, hp⟩
  rw [← hln] at h1 h2
  have e1 : ys.map (·.e) = l2 := by rw [hm, h1]
  have e2 : N = ys.length := by rw [h3, ← e1, List.length_map]
  rw [h2] at hq
  subst e2
  rw [h2, ← h4]
  rw [← h4] at hq
  subst h4
  exact ⟨V, c1, V2, c2, ys, rfl, ⟨⟨ys, e1, es_of_own ho fun y h => (hy y h).erm⟩, pa_of_own hq⟩, ho, fun y h => ownF_of (hy y h), rfl, hp⟩
/-- Two worlds that differ in blocks of two slices. -/
def OffS (W W' : World) : Prop := W.heap.size = W'.heap.size ∧ ∀ b : Nat, W'.heap[b]? = W.heap[b]? ∨ ∃ cs t z, W.heap[b]? = some (.cells cs t z) ∧ ∀ v ∈ cs, ∀ k y, v ≠ .int k y
theorem OffS.refl (w : World) : OffS w w := ⟨rfl, fun _ => .inl rfl⟩
theorem OffS.allocZ {W1 W2 : World} {A B : Option Addr} {n c m d : Nat} {t : TypeId} {o' : Obj} (h : OffS W1 W2) : OffS (W1.alloc (.cells #[.slice A n c, .slice B m d] t)) (W2.alloc o') := by
  refine ⟨by rw [World.size_alloc, World.size_alloc, h.1], fun b => ?_⟩
  simp only [World.alloc, Array.getElem?_push, h.1]
  by_cases hb : b = W2.heap.size
  · rw [if_pos hb, if_pos hb]; exact .inr ⟨_, _, _, rfl, by simp⟩
  · rw [if_neg hb, if_neg hb]; exact h.2 b
theorem OffS.alloc {W1 W2 : World} (h : OffS W1 W2) (o : Obj) : OffS (W1.alloc o) (W2.alloc o) := by
  refine ⟨by rw [World.size_alloc, World.size_alloc, h.1], fun b => ?_⟩
  simp only [World.alloc, Array.getElem?_push, h.1]
  by_cases hb : b = W2.heap.size
  · rw [if_pos hb, if_pos hb]; exact .inl rfl
  · rw [if_neg hb, if_neg hb]; exact h.2 b
theorem OffS.plus {W1 W2 : World} (h : OffS W1 W2) (x : More) : OffS (_root_.Go.Proofs.Ytcpmkfoelhopiaa.plus W1 x) (_root_.Go.Proofs.Ytcpmkfoelhopiaa.plus W2 x) := by
  refine ⟨by rw [size_plus, size_plus, h.1], fun b => ?_⟩
  simp only [_root_.Go.Proofs.Ytcpmkfoelhopiaa.plus]
  by_cases hb : b < W1.heap.size
  · rw [Array.getElem?_append_left hb, Array.getElem?_append_left (by rw [← h.1]; exact hb)]; exact h.2 b
  · have h1 := h.1
    rw [Array.getElem?_append_right (by omega), Array.getElem?_append_right (by omega), h1]; exact .inl rfl
theorem OffS.block {W W' : World} (h : OffS W W') {g i : Nat} {k : IntKind} {y : Int} (hc : W.cell? ⟨g, i, none⟩ = some (.int k y)) : W'.heap[g]? = W.heap[g]? := by
  rcases h.2 g with e | ⟨cs, t, z, hh, hn⟩
  · exact e
  · exfalso
    rw [cell_of_row W g i cs t z hh] at hc
    exact hn _ (Array.mem_of_getElem? hc) _ _ rfl
theorem Ar.off {k : IntKind} {W W' : World} {A : Option Addr} {xs : List Int} {n c : Nat} (h : Ar k W A xs n c) (o : OffS W W') : Ar k W' A xs n c := ⟨fun h0 => by
  obtain ⟨g, p, e, hg, ha⟩ := h.rd h0
  exact ⟨g, p, e, by rw [← o.1]; exact hg, ha.keep (o.block (ha 0 h0))⟩, h.len, h.cap, h.max⟩
theorem Es.off {W W' : World} {A : Option Addr} {rs : List ER} {n c : Nat} (h : Es W A rs n c) (o : OffS W W') : Es W' A rs n c := ⟨fun h0 => by
  obtain ⟨g, p, e, hg, ha⟩ := h.rd h0
  have q := o.block (ha 0 0 _ h0 rfl)
  exact ⟨g, p, e, by rw [← o.1]; exact hg, fun i j v hi hv => (World.cell?_of_block (w := W) q).trans (ha i j v hi hv)⟩, h.len, h.cap, h.max, fun x hx => ⟨(h.mem x hx).er.off o, (h.mem x hx).ew.off o, (h.mem x hx).ef.off o, (h.mem x hx).br, (h.mem x hx).bw⟩⟩
theorem Pa.off {W W' : World} {A : Option Addr} {ps : List Pr} {n c : Nat} (h : Pa W A ps n c) (o : OffS W W') : Pa W' A ps n c := ⟨fun h0 => by
  obtain ⟨g, p, e, hg, ha⟩ := h.rd h0
  have q := o.block (ha 0 h0).1
  exact ⟨g, p, e, by rw [← o.1]; exact hg, fun i hi => ⟨(World.cell?_of_block (w := W) q).trans (ha i hi).1, (World.cell?_of_block (w := W) q).trans (ha i hi).2⟩⟩, h.len, h.cap, h.max⟩
theorem Lg.off {W W' : World} {l : List Ev} {ps : List Pr} {A B : Option Addr} {n c m d : Nat} (h : Lg W l ps A n c B m d) (o : OffS W W') : Lg W' l ps A n c B m d := by
  obtain ⟨rs, e, he⟩ := h.ev
  exact ⟨⟨rs, e, he.off o⟩, h.pa.off o⟩
end Go.Proofs.Ytcpmkfoelhopiaa
