/- The list of the kinds. -/
import Derived.RangeFuncBox
import Derived.RangeFuncNested
import Derived.RangeFuncBound
import Derived.RangeFuncCalls
import Derived.RangeFuncLeaves
import Derived.Shelf.Abstract
import Derived.Shelf.RegionOpen
import Derived.WalkKit
import Derived.OwnWalkIn
import Derived.TacticsInMore
import Derived.LoopNIn
import Derived.LoopIn
import Derived.Maps.AppendAt
import Derived.KernelRfl
import Derived.Lib.Hide
import Derived.WalkSpells
import Derived.Handy
import Derived.Test.YtjojkogmbgppcaaC2
import Derived.Test.YtjojkogmbgppcaaW
namespace Go.Proofs.Ytjojkogmbgppcaa
open Go.RowKit

open Go.Shelf
attribute [local go_sem] Oper.semAt_some

theorem infoInt : (Try.prog.info? 3).map (fun i => (i.zero, i.size, i.bytes)) = some (some (.int .i64 0), 1, 8) := by kernel_rfl
/-- The kinds that have come, as cells. -/
def kv (pre : List Kd) : List Value := vals .i64 (pre.map (·.1))
theorem kv_len (pre : List Kd) : (kv pre).length = pre.length := by unfold kv; rw [vals_len, List.length_map]
theorem kv_snoc (pre : List Kd) (x : Kd) : kv (pre ++ [x]) = kv pre ++ [Value.int .i64 ((x.1 : Nat) : Int)] := by
  unfold kv
  rw [List.map_append, vals_app]
  rfl

set_option maxRecDepth 100000 in
set_option maxHeartbeats 2000000 in
theorem appendSeq_in (w : World) :
    CallsIn Fence.wide 9 Try.prog 60 #[.slice none 0 0, .func (.func 49) #[] #[]] w fun e w' => ∃ v, e = .returned v ∧ w'.ownsRow w.heap.size 3 1 v 8 (vals .i64 (ks 8)) ∧ Below w.heap.size w w' := by
  obtain ⟨i0, hi, hz0, hz1, hz2⟩ := info_parts infoInt
  refine callsIn_of_wp_marks Try.func60 rfl trivial ?_ rfl
  simp only [Try.ntmps60, List.size_toArray, List.length_cons, List.length_nil, Nat.reduceAdd, Nat.reduceSub, Array.replicate_succ, Array.replicate_zero, List.push_toArray, List.append_toArray, List.nil_append, List.cons_append]
  gi_wp2
  have bO := Boxed.new w 51 (.slice none 0 0)
  have hB0 : Below w.heap.size w (w.alloc (.cells #[.slice none 0 0] 51)) := (Below.refl _ w).alloc (Nat.le_refl _) _
  refine wpIn_rangeFunc_ownG rfl (by decide) (gf := 49) (lb := #[]) rfl trivial (enters_of Try.func49 (by kernel_rfl) rfl)
    (kinds_stops Fence.wide (9 - 1) trivial rfl (by decide) w.heap.size _) belowK_t (belowK_b (by simp)) (Below.refl _ _) (fun _ => rfl)
    (fun pre W => (∃ v, Boxed W w.heap.size 51 v ∧ W.ownsRow w.heap.size 3 1 v pre.length (kv pre) ∧ True) ∧ Below w.heap.size w W)
    (fun _ _ _ => False)
    (OwnFrom.and (Own.from (holdsRow_own w.heap.size w.heap.size 51 3 1 (fun pre => pre.length) (fun pre => kv pre) (fun pre v => True)) _) (ownFrom_below (Nat.le_refl _) (by simp)))
    (fun _ _ _ _ _ hs _ _ => hs)
    ⟨⟨_, bO, World.ownsRow_nil _ _ _ _, trivial⟩, hB0⟩
    (fun x => { tmps := #[.slice none 0 0, .func (.func 49) #[] #[], .pointer (some ⟨w.heap.size, 0, none⟩), undef, .slice none 0 0, .int .i64 ((x.1 : Nat) : Int), .func (.func 49) #[] #[], .int .i64 ((x.1 : Nat) : Int), undef, undef, undef, undef, undef], defers := [] }) ?assign ?body ?done ?stop
  case assign =>
    intro l x W K hK
    gi_wp2
    exact hK
  case body =>
    rintro l pre x W ⟨⟨v, hv, hrow, _⟩, hB⟩ hlt
    have hc := hv.cell
    gi_wp2_with (gi_at_builtin; refine wpListIn_append_own _ rfl _ _ 51 rfl w.heap.size 3 i0 (.int .i64 0) 1 8 Try.underlying51 hi hz0 hz1 hz2 rfl (by decide) _ _ _ rfl (hrow.alloc _) ⟨W.heap.size, 0, none⟩ 1 1 [.int .i64 ((x.1 : Nat) : Int)] rfl rfl (cell_one_new _ _ _) (by simp [Value.oneCell']) (by unfold maxLen; omega) (by omega) (by have := hB.size; simp; omega) ?_; intro v' w1 hown' hgrow _; obtain ⟨g', cap', rfl⟩ := ownsRow_succ hown'; obtain ⟨hv1, hv2, hr2, hk2, hb2⟩ := hv.appended (by decide) hrow hB.size (Nat.le_refl _) hown' hgrow; have hc1 := hv1.cell; have hf1 := hv1.frozen)
    exact ⟨hk2.from _, hb2, ⟨_, hv2, by rw [kv_snoc]; simpa using hr2, trivial⟩, hB.trans hb2⟩
  case done =>
    rintro D ys W hD hys ⟨⟨v, hv, hrow, _⟩, hB⟩ hK
    have hc := hv.cell
    gi_wp2
    refine ⟨by simp, .inl ⟨_, _, rfl, run_takeDeferred hK, ?_⟩⟩
    refine ⟨_, results_tmp rfl _ _ _, v, rfl, ?_, hB.trans (belowK_b (w := w) (Nat.le_refl _) W D _ _ (by simp at hD; omega) hK rfl rfl)⟩
    have hl : ys.length = 8 := by
      have := congrArg List.length hys
      rwa [List.length_map, ks_len] at this
    have q := ownsRow_putObj hrow (.deferred none) hK rfl
    unfold kv at q
    rw [hys, hl] at q
    exact q
  case stop =>
    rintro D c pre W _ _ h _
    exact h.elim

set_option maxRecDepth 100000 in
theorem collect_in (w : World) :
    CallsIn Fence.wide 9 Try.prog 48 #[.func (.func 49) #[] #[]] w fun e w' => ∃ v, e = .returned v ∧ w'.ownsRow w.heap.size 3 1 v 8 (vals .i64 (ks 8)) ∧ Below w.heap.size w w' := by
  refine callsIn_wide.2 ?_
  go_enter Try.func48, Try.ntmps48
  go_wp2_with fail
  refine (callsIn_wide.1 (appendSeq_in _)).mono ?_
  rintro e w1 ⟨v, rfl, hr, hB⟩
  go_wp2_with fail
  go_ret
  exact ⟨v, rfl, hr, hB⟩

set_option maxRecDepth 100000 in
theorem list_c (w : World) :
    Calls Try.prog 35 #[] w fun e w' => ∃ A c, e = .returned (.slice A 8 c) ∧ 8 ≤ c ∧ c ≤ 9223372036854775807 ∧ Rd .i64 w' A (ks 8) ∧ Plus w w' := by
  go_enter Try.func35, Try.ntmps35
  go_wp2_with fail
  refine (callsIn_wide.1 (kinds_in Fence.wide 9 trivial rfl _)).mono ?_
  rintro e w1 ⟨rfl, rfl⟩
  go_wp2_with fail
  refine (callsIn_wide.1 (collect_in _)).mono ?_
  rintro e w1 ⟨v, rfl, hr, hB⟩
  obtain ⟨A, c, rfl, h1, h2, h3⟩ := rd_of_own (k := .i64) (xs := ks 8) (by exact hr)
  go_wp2_with fail
  go_ret
  exact ⟨A, c, rfl, h1, h2, h3, .of_below hB⟩
end Go.Proofs.Ytjojkogmbgppcaa
