/- What Head returns, read; two. -/
import Derived.WalkKit
import Derived.WalkSpells
import Derived.WalkLawsBesides
import Derived.Handy
import Derived.Deep.RegionHeld3
import Derived.Deep.DeepCutAuto
import Derived.Deep.QuietTactic
import Derived.BigQuiet
import Derived.Lib.Hide
import Derived.KernelRfl
import Derived.WalkMore
import Derived.Deep.LoopGhost
import Derived.IntWalk
import Derived.Test.YtmfdlcicbiincaaDoorE12
namespace Go.Proofs.YtmfdlcicbiincaaDoor
open Go.RowKit

theorem row_get {ys : List ER} {i j : Nat} (hi : i < ys.length) (hj : j < 10) : (rowE ys)[i * 10 + j]? = (evL (ys.getD i default))[j]? := by
  induction ys generalizing i with
  | nil => simp at hi
  | cons r l ih =>
    unfold rowE
    rw [List.flatMap_cons]
    cases i with
    | zero =>
      rw [List.getElem?_append_left (by show _ < 10; omega)]
      simp
    | succ i =>
      rw [List.getElem?_append_right (by show 10 ≤ _; omega)]
      have e : (i + 1) * 10 + j - (evL r).length = i * 10 + j := by show (i + 1) * 10 + j - 10 = _; omega
      rw [e]
      exact ih (by simpa using hi)
theorem es_of_own {w : World} {B c : Nat} {V : Option Addr} {ys : List ER} (h : w.ownsRow B 42 10 (.slice V ys.length c) ys.length (rowE ys)) (hm : ∀ y ∈ ys, ERM w y) : Es w V ys ys.length c := by
  rcases h.2 with ⟨e, h0⟩ | ⟨g, cap, cur, e, hb, hg, hl, hmx, hs, ht⟩
  · have e0 : ys = [] := List.eq_nil_of_length_eq_zero h0
    injection e with e1 e2 e3
    subst e3
    subst e0
    exact ⟨fun h => absurd h (by simp), rfl, Nat.le_refl _, by omega, hm⟩
  · injection e with e1 e2 e3
    subst e1 e3
    refine ⟨fun h0 => ⟨g, 0, rfl, (Array.getElem?_eq_some_iff.1 hg).1, fun i j v hi hv => ?_⟩, rfl, hl, by unfold maxLen at hmx; exact hmx, hm⟩
    have hj : j < 10 := by
      have := (List.getElem?_eq_some_iff.1 hv).1
      exact this
    rw [Nat.zero_add, cell_of_row w g (i * 10 + j) cur 42 (0, 0) hg]
    rw [← row_get hi hj, ← ht, List.getElem?_take, if_pos (by omega)] at hv
    rw [← hv]
    simp
theorem prow_get {ys : List Pr} {i j : Nat} (hi : i < ys.length) (hj : j < 2) : (rowP ys)[i * 2 + j]? = (prL (ys.getD i (0, 0)))[j]? := by
  induction ys generalizing i with
  | nil => simp at hi
  | cons r l ih =>
    unfold rowP
    rw [List.flatMap_cons]
    cases i with
    | zero =>
      rw [List.getElem?_append_left (by show _ < 2; omega)]
      simp
    | succ i =>
      rw [List.getElem?_append_right (by show 2 ≤ _; omega)]
      have e : (i + 1) * 2 + j - (prL r).length = i * 2 + j := by show (i + 1) * 2 + j - 2 = _; omega
      rw [e]
      exact ih (by simpa using hi)
theorem pa_of_own {w : World} {B c : Nat} {V : Option Addr} {qs : List Pr} (h : w.ownsRow B 43 2 (.slice V qs.length c) qs.length (rowP qs)) : Pa w V qs qs.length c := by
  rcases h.2 with ⟨e, h0⟩ | ⟨g, cap, cur, e, hb, hg, hl, hmx, hs, ht⟩
  · have e0 : qs = [] := List.eq_nil_of_length_eq_zero h0
    injection e with e1 e2 e3
    subst e3
    subst e0
    exact ⟨fun h => absurd h (by simp), rfl, Nat.le_refl _, by omega⟩
  · injection e with e1 e2 e3
    subst e1 e3
    refine ⟨fun h0 => ⟨g, 0, rfl, (Array.getElem?_eq_some_iff.1 hg).1, fun i hi => ?_⟩, rfl, hl, by unfold maxLen at hmx; exact hmx⟩
    have q : ∀ j, j < 2 → w.cell? ⟨g, i * 2 + j, none⟩ = (prL (qs.getD i (0, 0)))[j]? := fun j hj => by
      rw [cell_of_row w g (i * 2 + j) cur 43 (0, 0) hg, ← prow_get hi hj, ← ht, List.getElem?_take, if_pos (by omega)]
      simp
    have q0 := q 0 (by omega)
    have q1 := q 1 (by omega)
    rw [Nat.zero_add]
    exact ⟨q0, q1⟩
/-- How many events a head has. -/
def hdN (n : Int) (m : Nat) : Nat := min n.toNat m
theorem head_n {A B : Option Addr} {rs : List ER} {ps : List Pr} {n c m d : Nat} {z : Int} (w : World) (he : Es w A rs n c) (hp : Pa w B ps m d) (hsm : ∀ x ∈ rs, x.e.r.length ≤ 1048576 ∧ x.e.w.length ≤ 1048576 ∧ x.e.f.length ≤ 1048576) (hl : n ≤ 100000) (hl2 : m ≤ 100000) : Calls Tryd.prog 38 #[.agg #[.slice A n c, .slice B m d], .int .i64 z] w (RetHd ((rs.map (·.e)).take (hdN z n)) (ps.filter (amB (hdN z n))) w) := by
  obtain rfl := he.len
  obtain rfl := hp.len
  exact head_x w he hp hsm hl hl2 (Lib.hid (by unfold hdN; omega))
def two1 : Ev := ⟨0, 2, false, false, 0, 0, 2, [], [7, 8], []⟩
def two2 : Ev := ⟨1, 1, false, false, 0, 1, 1, [8], [], [0]⟩
def twoR (w : World) : List ER := [⟨two1, none, 0, some ⟨w.heap.size + 1, 0, none⟩, 2, none, 0⟩, ⟨two2, some ⟨w.heap.size + 1 + 1, 0, none⟩, 1, none, 0, some ⟨w.heap.size + 1 + 1 + 1, 0, none⟩, 1⟩]
theorem new_at (w : World) (o : Obj) {g : Nat} (h : g = w.heap.size) : (w.alloc o).heap[g]? = some o := by
  subst h
  exact heap_alloc_new w o
theorem ar_one {k : IntKind} {w : World} {g : Nat} {xs : List Int} (hg : g < w.heap.size) (h : ∀ j, j < xs.length → w.cell? ⟨g, j, none⟩ = some (.int k (xs.getD j 0))) (hl : xs.length ≤ 100) : Ar k w (some ⟨g, 0, none⟩) xs xs.length xs.length :=
  ⟨fun _ => ⟨g, 0, rfl, hg, fun j hj => by rw [Nat.zero_add]; exact h j hj⟩, rfl, Nat.le_refl _, by omega⟩
theorem by_one {xs : List Int} (h : xs.all (fun x => decide (0 ≤ x) && decide (x < 256)) = true) : By xs := fun x hx => by
  have q := List.all_eq_true.1 h x hx
  simpa using q
theorem two_es (w : World) : Es (((((w.alloc (.cells #[.slice (some ⟨w.heap.size + 1 + 1 + 1 + 1, 0, none⟩) 2 2, .slice none 0 0] 25)).alloc (.cells #[.int .u8 7, .int .u8 8] 5)).alloc (.cells #[.int .u8 8] 5)).alloc (.cells #[.int .i64 0] 3)).alloc (.cells #[.int .i64 0, .int .i64 2, .bool false, .bool false, .int .i64 0, .int .i64 0, .int .i64 2, .slice none 0 0, .slice (some ⟨w.heap.size + 1, 0, none⟩) 2 2, .slice none 0 0, .int .i64 1, .int .i64 1, .bool false, .bool false, .int .i64 0, .int .i64 1, .int .i64 1, .slice (some ⟨w.heap.size + 1 + 1, 0, none⟩) 1 1, .slice none 0 0, .slice (some ⟨w.heap.size + 1 + 1 + 1, 0, none⟩) 1 1] 42)) (some ⟨w.heap.size + 1 + 1 + 1 + 1, 0, none⟩) (twoR w) 2 2 := by
  refine es_of_own (B := 0) (ys := twoR w) ⟨rfl, .inr ⟨_, 2, #[.int .i64 0, .int .i64 2, .bool false, .bool false, .int .i64 0, .int .i64 0, .int .i64 2, .slice none 0 0, .slice (some ⟨w.heap.size + 1, 0, none⟩) 2 2, .slice none 0 0, .int .i64 1, .int .i64 1, .bool false, .bool false, .int .i64 0, .int .i64 1, .int .i64 1, .slice (some ⟨w.heap.size + 1 + 1, 0, none⟩) 1 1, .slice none 0 0, .slice (some ⟨w.heap.size + 1 + 1 + 1, 0, none⟩) 1 1], rfl, Nat.zero_le _, ?_, Nat.le_refl _, by unfold maxLen; omega, rfl, rfl⟩⟩ ?_
  · exact new_at _ _ (by simp)
  · intro y hy
    unfold twoR at hy
    simp only [List.mem_cons, List.not_mem_nil, or_false] at hy
    rcases hy with rfl | rfl
    · refine ⟨Ar.nil _ _ (Nat.zero_le _) _, ar_one (xs := [7, 8]) (by simp) (fun j hj => ?_) (by decide), Ar.nil _ _ (Nat.zero_le _) _, by_one rfl, by_one rfl⟩
      rcases j with _ | _ | j
      · simp [go_sem]
      · simp [go_sem]
      · exact absurd hj (by show ¬ j + 1 + 1 < 2; omega)
    · refine ⟨ar_one (xs := [8]) (by simp) (fun j hj => ?_) (by decide), Ar.nil _ _ (Nat.zero_le _) _, ar_one (xs := [0]) (by simp) (fun j hj => ?_) (by decide), by_one rfl, by_one rfl⟩
      · rcases j with _ | j
        · simp [go_sem]
        · exact absurd hj (by show ¬ j + 1 < 1; omega)
      · rcases j with _ | j
        · simp [go_sem]
        · exact absurd hj (by show ¬ j + 1 < 1; omega)
end Go.Proofs.YtmfdlcicbiincaaDoor
