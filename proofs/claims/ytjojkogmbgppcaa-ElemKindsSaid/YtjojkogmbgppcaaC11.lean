/- The kinds that are ranged over, up to so many. -/
import Derived.RangeFuncBox
import Derived.RangeFuncNested
import Derived.RangeFuncBound
import Derived.RangeFuncCalls
import Derived.RangeFuncLeaves
import Derived.Shelf.Abstract
import Derived.Shelf.RegionOpen
import Derived.WalkKit
import Derived.OwnWalkIn
import Derived.TacticsInMore
import Derived.LoopNIn
import Derived.LoopIn
import Derived.Maps.AppendAt
import Derived.KernelRfl
import Derived.Lib.Hide
import Derived.WalkSpells
import Derived.Handy
import Derived.Test.YtjojkogmbgppcaaC9
namespace Go.Proofs.Ytjojkogmbgppcaa
open Go.RowKit

open Go.Shelf
attribute [local go_sem] Oper.semAt_some

/-- How many are taken. -/
def tkN (n : Int) : Nat := (min (max n 0) 8).toNat
set_option maxRecDepth 100000 in
set_option maxHeartbeats 4000000 in
theorem taken_in (n : Int) (hn : 0 < n) (w : World) :
    CallsIn Fence.wide 9 Try.prog 37 #[.int .i64 n] w fun e w' => ∃ v, e = .returned v ∧ w'.ownsRow (w.heap.size + 1) 3 1 v (tkN n) (vals .i64 (ks (tkN n))) ∧ Below w.heap.size w w' := by
  obtain ⟨i0, hi, hz0, hz1, hz2⟩ := info_parts infoInt
  have hnf := notNil
  refine callsIn_of_wp_marks Try.func37 rfl trivial ?_ rfl
  simp only [Try.ntmps37, List.size_toArray, List.length_cons, List.length_nil, Nat.reduceAdd, Nat.reduceSub, Array.replicate_succ, Array.replicate_zero, List.push_toArray, List.append_toArray, List.nil_append, List.cons_append]
  gi_wp2_with (refine ⟨trivial, ?_⟩; gi_at_call 38; refine (kinds_in Fence.wide _ trivial rfl _).mono ?_; rintro e w' ⟨rfl, rfl⟩)
  have bN := Boxed.new w 3 (.int .i64 n)
  have bO := Boxed.new (w.alloc (.cells #[.int .i64 n] 3)) 51 (.slice none 0 0)
  rw [World.size_alloc] at bO
  have hB0 : Below (w.heap.size + 1) (w.alloc (.cells #[.int .i64 n] 3)) ((w.alloc (.cells #[.int .i64 n] 3)).alloc (.cells #[.slice none 0 0] 51)) := (Below.refl _ _).alloc (by simp) _
  have hs1 : w.heap.size + 1 ≤ (w.alloc (.cells #[.int .i64 n] 3)).heap.size := by simp
  refine wpIn_rangeFunc_ownG rfl (by decide) (gf := 49) (lb := #[]) rfl trivial (enters_of Try.func49 (by kernel_rfl) rfl)
    (kinds_stops Fence.wide (9 - 1) trivial rfl (by decide) (w.heap.size + 1) _) belowK_t (belowK_b (by simp)) (Below.refl _ _) (fun _ => rfl)
    (fun pre W => (∃ v, Boxed W (w.heap.size + 1) 51 v ∧ W.ownsRow (w.heap.size + 1) 3 1 v pre.length (kv pre) ∧ (pre.length : Int) < n) ∧ Below (w.heap.size + 1) (w.alloc (.cells #[.int .i64 n] 3)) W)
    (fun c pre W => (∃ v, Boxed W (w.heap.size + 1) 51 v ∧ W.ownsRow (w.heap.size + 1) 3 1 v pre.length (kv pre) ∧ (c = .exit 0 ∧ (pre.length : Int) = n)) ∧ Below (w.heap.size + 1) (w.alloc (.cells #[.int .i64 n] 3)) W)
    (OwnFrom.and (Own.from (holdsRow_own (w.heap.size + 1) (w.heap.size + 1) 51 3 1 (fun pre => pre.length) (fun pre => kv pre) (fun pre v => (pre.length : Int) < n)) _) (ownFrom_below hs1 (by simp)))
    (fun c => OwnFrom.and (Own.from (holdsRow_own (w.heap.size + 1) (w.heap.size + 1) 51 3 1 (fun pre => pre.length) (fun pre => kv pre) (fun pre v => c = .exit 0 ∧ (pre.length : Int) = n)) _) (ownFrom_below hs1 (by simp)))
    ⟨⟨_, bO, World.ownsRow_nil _ _ _ _, by simp; omega⟩, hB0⟩
    ?a1 ?assign ?body ?done ?stop
  case assign =>
    intro l x W K hK
    gi_wp2
    exact hK
  case body =>
    rintro l pre x W ⟨⟨v, hv, hrow, hpn⟩, hB⟩ hlt
    have hc := hv.cell
    have hnb : Boxed W w.heap.size 3 (.int .i64 n) := (hB.block w.heap.size (Nat.lt_succ_self _)).trans bN
    have hnc := hnb.cell
    have hBs : w.heap.size + 1 ≤ W.heap.size := Nat.le_trans hs1 hB.size
    have hpl : ((kv pre).length : Int) ≤ 7 := by rw [kv_len]; omega
    gi_wp2_with (gi_at_builtin; refine wpListIn_append_own _ rfl _ _ 51 rfl (w.heap.size + 1) 3 i0 (.int .i64 0) 1 8 Try.underlying51 hi hz0 hz1 hz2 rfl (by decide) _ _ _ rfl (hrow.alloc _) ⟨W.heap.size, 0, none⟩ 1 1 [.int .i64 ((x.1 : Nat) : Int)] rfl rfl (cell_one_new _ _ _) (by simp [Value.oneCell']) (by unfold maxLen; omega) (by omega) (by simp; omega) ?_; intro v' w1 hown' hgrow _; obtain ⟨g', cap', rfl⟩ := ownsRow_succ hown'; obtain ⟨hv1, hv2, hr2, hk2, hb2⟩ := hv.appended (by decide) hrow hBs (Nat.le_refl _) hown' hgrow; have hc1 := hv1.cell; have hf1 := hv1.frozen; have hn1 := (Boxed.cell ((hb2.block w.heap.size (Nat.lt_succ_self _)).trans hnb)))
    · refine ⟨hk2.from _, ⟨_, hv2, by rw [kv_snoc]; simpa using hr2, rfl, ?_⟩, hB.trans hb2⟩
      have : n ≤ (pre.length : Int) + 1 := by assumption
      simp
      omega
    · refine ⟨hk2.from _, hb2, ⟨_, hv2, by rw [kv_snoc]; simpa using hr2, ?_⟩, hB.trans hb2⟩
      have : (pre.length : Int) + 1 < n := by assumption
      simp
      omega
  case done =>
    rintro D ys W hD hys ⟨⟨v, hv, hrow, hpn⟩, hB⟩ hK
    have hc := hv.cell
    have hl : ys.length = 8 := by
      have := congrArg List.length hys
      rwa [List.length_map, ks_len] at this
    have ht : tkN n = 8 := by unfold tkN; omega
    rw [hl] at hpn
    gi_wp2
    refine ⟨by simp, .inl ⟨_, _, rfl, run_takeDeferred hK, ?_⟩⟩
    refine ⟨_, results_tmp rfl _ _ _, v, rfl, ?_, (((Below.refl _ w).alloc (Nat.le_refl _) _).trans (hB.mono (Nat.le_succ _))).trans (belowK_b (w := w) (Nat.le_refl _) W D _ _ (by simp at hD; omega) hK rfl rfl)⟩
    have q := ownsRow_putObj hrow (.deferred none) hK rfl
    unfold kv at q
    rw [hys, hl] at q
    rw [ht]
    exact q
  case stop =>
    rintro D c pre W hD ⟨j, hj, hpre⟩ ⟨⟨v, hv, hrow, rfl, hpn⟩, hB⟩ hK
    have hc := hv.cell
    have hl : pre.length = j := by
      have := congrArg List.length hpre
      rwa [List.length_map, ks_len] at this
    have ht : tkN n = j := by unfold tkN; omega
    clear hpn
    gi_wp2
    refine ⟨by simp, .inl ⟨_, _, rfl, run_takeDeferred hK, ?_⟩⟩
    refine ⟨_, results_tmp rfl _ _ _, v, rfl, ?_, (((Below.refl _ w).alloc (Nat.le_refl _) _).trans (hB.mono (Nat.le_succ _))).trans (belowK_b (w := w) (Nat.le_refl _) W D _ _ (by simp at hD; omega) hK rfl rfl)⟩
    have q := ownsRow_putObj hrow (.deferred none) hK rfl
    unfold kv at q
    rw [hpre, hl] at q
    rw [ht]
    exact q

set_option maxRecDepth 100000 in
theorem taken_no (n : Int) (hn : n ≤ 0) (w : World) : Calls Try.prog 37 #[.int .i64 n] w fun e w' => e = .returned (.slice none 0 0) ∧ Plus w w' := by
  go_enter Try.func37, Try.ntmps37
  go_wp2_with fail
  refine (callsIn_wide.1 (kinds_in Fence.wide 9 trivial rfl _)).mono ?_
  rintro e w1 ⟨rfl, rfl⟩
  go_wp2_with fail
  go_ret
  exact ⟨rfl, (by repeat' (first | exact Plus.refl _ | refine Plus.alloc ?_ _ | refine Plus.plus ?_ _ | refine Plus.drew ?_ | refine Plus.drewN ?_ _))⟩
/-- What is taken, as it lies in memory. -/
theorem taken_c (n : Int) (m : Nat) (hm : Hid (tkN n = m)) (w : World) : Calls Try.prog 37 #[.int .i64 n] w fun e w' => ∃ (A : Option Addr) (c : Nat), e = .returned (.slice A m c) ∧ Ar .i64 9223372036854775808 w' A (ks m) m c ∧ Plus w w' := by
  have hm' := hm.out
  have h8 : m ≤ 8 := by rw [← hm']; unfold tkN; omega
  have hks : ∀ x ∈ ks m, x < 9223372036854775808 := fun x hx => by
    unfold ks at hx
    rw [List.mem_range'_1] at hx
    omega
  by_cases hn : n ≤ 0
  · have h0 : m = 0 := by rw [← hm']; unfold tkN; omega
    subst h0
    refine (taken_no n hn w).mono ?_
    rintro e w' ⟨rfl, hp⟩
    exact ⟨none, 0, rfl, ⟨Rd.nil, rfl, Nat.le_refl _, by decide, hks⟩, hp⟩
  · refine (callsIn_wide.1 (taken_in n (by omega) w)).mono ?_
    rintro e w' ⟨v, rfl, hr, hB⟩
    rw [hm'] at hr
    have hl : (ks m).length = m := ks_len m
    have hr2 : w'.ownsRow (w.heap.size + 1) 3 1 v (ks m).length (vals .i64 (ks m)) := by rw [hl]; exact hr
    obtain ⟨A, c, rfl, h1, h2, h3⟩ := rd_of_own hr2
    rw [hl] at h1 ⊢
    exact ⟨A, c, rfl, ⟨h3, hl.symm, h1, h2, hks⟩, .of_below hB⟩
end Go.Proofs.Ytjojkogmbgppcaa
