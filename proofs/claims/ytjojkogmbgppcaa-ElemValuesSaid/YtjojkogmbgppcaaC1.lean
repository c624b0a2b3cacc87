/- The iterator over the kinds. -/
import Derived.RangeFuncBox
import Derived.RangeFuncNested
import Derived.RangeFuncBound
import Derived.RangeFuncCalls
import Derived.RangeFuncLeaves
import Derived.Shelf.Abstract
import Derived.Shelf.RegionOpen
import Derived.WalkKit
import Derived.OwnWalkIn
import Derived.TacticsInMore
import Derived.LoopNIn
import Derived.LoopIn
import Derived.Maps.AppendAt
import Derived.KernelRfl
import Derived.Lib.Hide
import Derived.Test.YtjojkogmbgppcaaProg
import Derived.Test.YtjojkogmbgppcaaP
namespace Go.Proofs.Ytjojkogmbgppcaa
open Go.RowKit

open Go.Shelf
attribute [local go_sem] Oper.semAt_some

theorem cell_fresh (W : World) (v : Value) (t : TypeId) : (W.alloc (.cells #[v] t)).cell? ⟨W.heap.size, 0, none⟩ = some v ∧ (W.alloc (.cells #[v] t)).frozen? ⟨W.heap.size, 0, none⟩ = false :=
  ⟨(Boxed.new W t v).cell, (Boxed.new W t v).frozen⟩
theorem cell_more {W : World} {a : Addr} {v : Value} (o : Obj) (h : W.cell? a = some v) : (W.alloc o).cell? a = some v := cell_kept h (World.grownBy_alloc W o none) (fun r e => by cases e)
theorem frozen_more {W : World} {a : Addr} {v : Value} (o : Obj) (h : W.cell? a = some v) (hf : W.frozen? a = false) : (W.alloc o).frozen? a = false := (frozen_kept h (World.grownBy_alloc W o none) (fun r e => by cases e)).trans hf

/-- The first k kinds. -/
def ks (k : Nat) : List Nat := List.range' 1 k
theorem ks_succ (k : Nat) : ks (k + 1) = ks k ++ [k + 1] := by
  unfold ks
  rw [List.range'_1_concat, Nat.add_comm 1 k]
theorem ks_len (k : Nat) : (ks k).length = k := List.length_range'

/-- A kind. -/
abbrev Kd := { x : Nat // 1 ≤ x ∧ x ≤ 8 }

set_option maxRecDepth 100000 in
set_option maxHeartbeats 2000000 in
theorem kinds_round (F : Fence) (n : Nat) (hf : F.fn 49) (hro : F.round = none) (hn : 1 ≤ n) (l n₀ : Nat) (J Jx : List Kd → World → Prop)
    (hY : ∀ pre x W, J pre W → pre.length < 8 → YieldAt F (n - 1) Try.prog l #[.int .i64 ((x.1 : Nat) : Int)] W fun e W' =>
      (e = .returned (.bool true) ∧ J (pre ++ [x]) W' ∧ Below n₀ W W') ∨ (e = .returned (.bool false) ∧ Jx (pre ++ [x]) W'))
    (W : World) (h0 : J [] W) :
    CallsIn F n Try.prog 49 #[.func (.yield l) #[] #[]] W fun e W' => (∃ v, e = .returned v) ∧
      ((∃ ys, ys.map (·.1) = ks 8 ∧ J ys W') ∨ (∃ pre, (∃ k, k ≤ 8 ∧ pre.map (·.1) = ks k) ∧ Jx pre W')) := by
  refine callsIn_of_wp Try.func49 rfl hf ?_ hro
  simp only [Try.ntmps49, List.size_toArray, List.length_cons, List.length_nil, Nat.reduceAdd, Nat.reduceSub, Array.replicate_succ, Array.replicate_zero, List.push_toArray, List.append_toArray, List.nil_append, List.cons_append]
  gi_wp2
  gi_loopw [2] (fun i wr => ∃ (k : Nat) (pre : List Kd), k ≤ 8 ∧ i = .int .i64 ((k : Int) + 1) ∧ pre.map (·.1) = ks k ∧ J pre wr) (fun i _ => 9 - (intOf i).toNat)
  case atStart => exact ⟨0, [], Nat.zero_le _, rfl, rfl, h0⟩
  case round =>
    obtain ⟨k, pre, hk, rfl, hp, hJs⟩ := hrel
    have hpl : pre.length = k := by
      have := congrArg List.length hp
      rwa [List.length_map, ks_len] at this
    by_cases hlt : k < 8
    · obtain ⟨fn, tmps, assign, body, hy, hR⟩ := hY _ ⟨k + 1, by omega, by omega⟩ wr hJs (by rw [hpl]; exact hlt)
      have h8 : (k : Int) + 1 ≤ 8 := by omega
      have hp' : (pre ++ [(⟨k + 1, by omega, by omega⟩ : Kd)]).map (·.1) = ks (k + 1) := by
        rw [List.map_append, hp, ks_succ]
        rfl
      push_cast at hy
      gi_wp2
      refine hR.mono ?_
      rintro e W3 (⟨rfl, hJ3, hk3⟩ | ⟨rfl, hJx3⟩)
      · gi_wp2
        go_roundw
        case rel => exact ⟨k + 1, _, by omega, by simp, hp', hJ3⟩
        case measure => simp [intOf]; omega
      · gi_wp2
        refine bodyPost_ret (results_none rfl _ _ _) rfl ?_
        exact ⟨⟨_, rfl⟩, .inr ⟨_, ⟨k + 1, by omega, hp'⟩, hJx3⟩⟩
    · obtain rfl : k = 8 := by omega
      gi_wp2
      go_end0
      exact ⟨⟨_, rfl⟩, .inl ⟨_, hp, hJs⟩⟩

theorem kinds_stops (F : Fence) (n : Nat) (hf : F.fn 49) (hro : F.round = none) (hn : 1 ≤ n) (n₀ : Nat) (w : World) :
    SeqStopsK F n Try.prog 49 #[] (fun x : Kd => #[Value.int .i64 ((x.1 : Nat) : Int)]) (Below n₀) (fun ys => ys.map (·.1) = ks 8) (fun pre => ∃ k, k ≤ 8 ∧ pre.map (·.1) = ks k) 8 w := fun l J Jx W _ _ _ hY h0 =>
  kinds_round F n hf hro hn l n₀ J Jx hY W h0

set_option maxRecDepth 100000 in
theorem kinds_in (F : Fence) (n : Nat) (hf : F.fn 38) (hro : F.round = none) (w : World) :
    CallsIn F n Try.prog 38 #[] w fun e w' => e = .returned (.func (.func 49) #[] #[]) ∧ w' = w := by
  refine callsIn_of_wp Try.func38 rfl hf ?_ hro
  simp only [Try.ntmps38, List.size_toArray, List.length_nil, Nat.reduceSub, Array.replicate_succ, Array.replicate_zero, List.push_toArray, List.append_toArray, List.nil_append]
  gi_wp2
  go_ret
  exact ⟨rfl, rfl⟩
end Go.Proofs.Ytjojkogmbgppcaa
