/- How many bytes a word of a kind has. -/
import Derived.RangeFuncBox
import Derived.RangeFuncNested
import Derived.RangeFuncBound
import Derived.RangeFuncCalls
import Derived.RangeFuncLeaves
import Derived.Shelf.Abstract
import Derived.Shelf.RegionOpen
import Derived.WalkKit
import Derived.OwnWalkIn
import Derived.TacticsInMore
import Derived.LoopNIn
import Derived.LoopIn
import Derived.Maps.AppendAt
import Derived.KernelRfl
import Derived.Lib.Hide
import Derived.WalkMore
import Derived.Test.YtjojkogmbgppcaaC1
namespace Go.Proofs.Ytjojkogmbgppcaa
open Go.RowKit

open Go.Shelf
attribute [local go_sem] Oper.semAt_some

/-- The size of a kind. -/
def szK (k : Int) : Nat := if 1 ≤ k ∧ k ≤ 8 then 2 ^ ((k - 1) / 2).toNat else 0

set_option maxRecDepth 100000 in
set_option maxHeartbeats 2000000 in
theorem size_in (k : Int) (w : World) :
    CallsIn Fence.wide 9 Try.prog 16 #[.int .i64 k] w fun e w' => e = .returned (.int .i64 ((szK k : Nat) : Int)) ∧ Below w.heap.size w w' := by
  refine callsIn_of_wp_marks Try.func16 rfl trivial ?_ rfl
  simp only [Try.ntmps16, List.size_toArray, List.length_cons, List.length_nil, Nat.reduceAdd, Nat.reduceSub, Array.replicate_succ, Array.replicate_zero, List.push_toArray, List.append_toArray, List.nil_append, List.cons_append]
  gi_wp2
  refine wpIn_wide.2 (wp_scope_straight ((wpIn_wide (n := 9)).1 ?_))
  gi_wp2
  refine wpIn_label ?_
  gi_wp2_with (refine ⟨trivial, ?_⟩; gi_at_call 38; refine (kinds_in Fence.wide _ trivial rfl _).mono ?_; rintro e w' ⟨rfl, rfl⟩)
  have c0 := cell_fresh w (.int .i64 k) 3
  have c1 := cell_fresh (w.alloc (.cells #[.int .i64 k] 3)) (.int .i64 0) 3
  rw [World.size_alloc] at c1
  have hB0 : Below w.heap.size w ((w.alloc (.cells #[.int .i64 k] 3)).alloc (.cells #[.int .i64 0] 3)) := ((Below.refl _ w).alloc (Nat.le_refl _) _).alloc (by simp) _
  refine wpIn_rangeFunc_ownF rfl (by decide) (gf := 49) (lb := #[]) rfl trivial (enters_of Try.func49 (by kernel_rfl) rfl)
    (kinds_stops Fence.wide (9 - 1) trivial rfl (by decide) w.heap.size _) belowK_t (belowK_b (by simp; omega)) (Below.refl _ _) (fun _ => rfl)
    (fun pre W => ((∀ y ∈ pre, ((y.1 : Nat) : Int) ≠ k) ∧ W.cell? ⟨w.heap.size, 0, none⟩ = some (.int .i64 k) ∧ W.cell? ⟨w.heap.size + 1, 0, none⟩ = some (.int .i64 0) ∧ W.frozen? ⟨w.heap.size + 1, 0, none⟩ = false) ∧ Below w.heap.size w W)
    (fun c pre W => (c = .exit 0 ∧ W.cell? ⟨w.heap.size + 1, 0, none⟩ = some (.int .i64 ((szK k : Nat) : Int))) ∧ Below w.heap.size w W)
    (OwnFrom.and (Own.from (fun s A B row hs hg hr => ⟨hs.1, cell_kept hs.2.1 hg hr, cell_kept hs.2.2.1 hg hr, (frozen_kept hs.2.2.1 hg hr).trans hs.2.2.2⟩) _) (ownFrom_below (Nat.le_refl _) (by simp; omega)))
    (fun c => OwnFrom.and (Own.from (fun s A B row hs hg hr => ⟨hs.1, cell_kept hs.2 hg hr⟩) _) (ownFrom_below (Nat.le_refl _) (by simp; omega)))
    ⟨⟨by simp, cell_more _ c0.1, c1.1, c1.2⟩, hB0⟩
    (fun x => { tmps := #[.int .i64 k, .pointer (some ⟨w.heap.size, 0, none⟩), .int .i64 0, .pointer (some ⟨w.heap.size + 1, 0, none⟩), .int .i64 ((x.1 : Nat) : Int), .func (.func 49) #[] #[], .int .i64 ((x.1 : Nat) : Int), undef, undef, undef, undef, undef, undef, undef, undef], defers := [] }) ?assign ?body ?done ?stop
  case assign =>
    intro l x W K hK
    gi_wp2
    exact hK
  case body =>
    rintro l pre ⟨x, hx⟩ W ⟨⟨hp, hk, hc, hf⟩, hB⟩ _
    have hx8 : x = 1 ∨ x = 2 ∨ x = 3 ∨ x = 4 ∨ x = 5 ∨ x = 6 ∨ x = 7 ∨ x = 8 := by omega
    by_cases hxk : (x : Int) = k
    · subst hxk
      rcases hx8 with rfl | rfl | rfl | rfl | rfl | rfl | rfl | rfl
      all_goals
        gi_wp2
        exact ⟨KeepsOthers.setCell _ _ _, ⟨rfl, World.cell?_setCell_same' _ _ _ (by rw [hc]; rfl)⟩, hB.setCell (p := ⟨w.heap.size + 1, 0, none⟩) (by simp) _⟩
    · have hxk' : ((x : Int) == k) = false := by simp [hxk]
      gi_wp2
      exact ⟨KeepsOthers.refl _, Below.refl _ _, ⟨fun y hy => (List.mem_append.1 hy).elim (hp y) (fun e e' => by simp at e; subst e; exact hxk e'), hk, hc, hf⟩, hB⟩
  case done =>
    rintro D ys W hD hys ⟨⟨hne, hk, hc, hf⟩, hB⟩ hK
    have h0 : szK k = 0 := by
      unfold szK
      rw [if_neg]
      rintro ⟨h1, h2⟩
      have hm : k.toNat ∈ ys.map (·.1) := by
        rw [hys]
        unfold ks
        rw [List.mem_range'_1]
        omega
      obtain ⟨y, hy, e⟩ := List.mem_map.1 hm
      exact hne y hy (by omega)
    replace hc : W.cell? ⟨w.heap.size + 1, 0, none⟩ = some (.int .i64 ((szK k : Nat) : Int)) := by rw [h0]; exact hc
    clear h0
    gi_wp2
    rw [Exit.noGoto_ret]
    refine ⟨by simp, .inl ⟨_, _, rfl, run_takeDeferred hK, ?_⟩⟩
    exact ⟨_, results_tmp rfl _ _ _, rfl, hB.trans (belowK_b (w := w) (Nat.le_refl _) W D _ _ (by simp at hD; omega) hK rfl rfl)⟩
  case stop =>
    rintro D c pre W hD _ ⟨⟨rfl, hc⟩, hB⟩ hK
    gi_wp2
    rw [Exit.noGoto_ret]
    refine ⟨by simp, .inl ⟨_, _, rfl, run_takeDeferred hK, ?_⟩⟩
    exact ⟨_, results_tmp rfl _ _ _, rfl, hB.trans (belowK_b (w := w) (Nat.le_refl _) W D _ _ (by simp at hD; omega) hK rfl rfl)⟩

theorem size_c (k : Int) (w : World) : Calls Try.prog 16 #[.int .i64 k] w fun e w' => e = .returned (.int .i64 ((szK k : Nat) : Int)) ∧ Plus w w' :=
  (callsIn_wide.1 (size_in k w)).mono fun _ _ h => ⟨h.1, .of_below h.2⟩
end Go.Proofs.Ytjojkogmbgppcaa
