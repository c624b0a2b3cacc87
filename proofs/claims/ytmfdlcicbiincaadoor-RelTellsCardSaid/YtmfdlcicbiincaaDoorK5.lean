/- The iterator over a row's members. -/
import Derived.RangeFuncBox
import Derived.RangeFuncNested
import Derived.RangeFuncBound
import Derived.RangeFuncCalls
import Derived.RangeFuncLeaves
import Derived.Shelf.Abstract
import Derived.Shelf.RegionOpen
import Derived.WalkKit
import Derived.OwnWalkIn
import Derived.TacticsInMore
import Derived.LoopNIn
import Derived.LoopIn
import Derived.Maps.AppendAt
import Derived.KernelRfl
import Derived.Lib.Hide
import Derived.WalkSpells
import Derived.Handy
import Derived.Test.YtmfdlcicbiincaaDoorProg
import Derived.Test.YtmfdlcicbiincaaDoorK2
import Derived.Test.YtmfdlcicbiincaaDoorK3
import Derived.Test.YtmfdlcicbiincaaDoorK4
namespace Go.Proofs.YtmfdlcicbiincaaDoor
open Go.RowKit

open Go.Shelf
attribute [local go_sem] Oper.semAt_some

theorem mem_split (s : Nat → Bool) {n m : Nat} (h : n ≤ m) : ∃ r, mem s m = mem s n ++ r := by
  obtain ⟨d, rfl⟩ : ∃ d, m = n + d := ⟨m - n, by omega⟩
  clear h
  induction d with
  | zero => exact ⟨[], by simp⟩
  | succ d ih =>
    obtain ⟨r, hr⟩ := ih
    exact ⟨r ++ (if s (n + d) then [n + d] else []), by rw [← Nat.add_assoc, mem_succ, hr, List.append_assoc]⟩

set_option maxRecDepth 100000 in
set_option maxHeartbeats 4000000 in
theorem all_in {K h c : Nat} (w : World) : CallsIn Fence.wide 9 Tryd.prog 75 #[.slice (some ⟨h, 0, none⟩) K c] w fun e w' => e = .returned (.func (.func 85) #[] #[.pointer (some ⟨w.heap.size, 0, none⟩)]) ∧ w' = w.alloc (.cells #[.slice (some ⟨h, 0, none⟩) K c] 72) := by
  refine callsIn_of_wp Tryd.func75 rfl trivial ?_ rfl
  simp only [Tryd.ntmps75, List.size_toArray, List.length_cons, List.length_nil, Nat.reduceAdd, Nat.reduceSub, Array.replicate_succ, Array.replicate_zero, List.push_toArray, List.append_toArray, List.nil_append, List.cons_append]
  gi_wp2
  go_ret
  exact ⟨rfl, rfl⟩

/-- What the iterator reads. -/
def FxA (b h K c : Nat) (s : Nat → Bool) (W : World) : Prop := Lai W ∧ Boxed W b 72 (.slice (some ⟨h, 0, none⟩) K c) ∧ Rw W h K s

set_option maxRecDepth 100000 in
set_option maxHeartbeats 4000000 in
theorem all_seq {s : Nat → Bool} {K h c b : Nat} (hK : K ≤ 100000) (_ : K ≤ c) : SeqO Tryd.prog 85 #[.pointer (some ⟨b, 0, none⟩)] (fun x : Nat => #[.int .i64 (x : Nat)]) (FxA b h K c s) (mem s (64 * K)) := by
  intro l J Jx W sJ sJx hF hY h0
  refine callsIn_of_wp Tryd.func85 rfl trivial ?_ rfl
  simp only [Tryd.ntmps85, List.size_toArray, List.length_cons, List.length_nil, Nat.reduceAdd, Nat.reduceSub, Array.replicate_succ, Array.replicate_zero, List.push_toArray, List.append_toArray, List.nil_append, List.cons_append]
  obtain ⟨_, hb0, _⟩ := hF [] W h0
  have hb1 := hb0.cell
  gi_wp2
  gi_loopw [7] (fun s7 wr => ∃ i : Nat, i ≤ K ∧ s7 = .int .i64 i ∧ J (mem s (64 * i)) wr) (fun s7 _ => ((K : Int) - intOf s7).toNat)
  case atStart => exact ⟨0, by omega, rfl, h0⟩
  case round =>
    obtain ⟨i, hi, rfl, hJ⟩ := hrel
    by_cases hlt : i < K
    · have h3 : (i : Int) < K := by omega
      obtain ⟨_, _, hr⟩ := hF _ wr hJ
      have hc := hr.cell hlt
      have hl := hr.lt
      rw [← lft_zero] at hc
      clear hr
      gi_wp2
      gi_loopw [4] (fun s4 wx => ∃ m : Nat, m ≤ 64 ∧ s4 = .int .u64 (lft s i m : Nat) ∧ J (mem s (64 * i + m)) wx) (fun s4 _ => (intOf s4).toNat)
      case atStart => exact ⟨0, by omega, rfl, hJ⟩
      case round =>
        obtain ⟨m, hm, rfl, hJm⟩ := hrel
        by_cases h0' : lft s i m = 0
        · have hJn := hJm
          rw [← lft_none h0' hm] at hJn
          rw [h0']
          gi_wp2
          go_roundw
          case rel => exact ⟨i + 1, by omega, by simp, hJn⟩
          case measure => simp [intOf]; omega
        · obtain ⟨k, ek, h1, h2, h3', h4, h5⟩ := lft_some h0'
          have h6 : ¬ ((lft s i m : Nat) : Int) = 0 := by omega
          have hL := (hF _ wr hJm).1
          have ht := tz_c wr (lft_lt s i m) h0' hL
          rw [← ek] at ht
          clear ek
          obtain ⟨rest, hx⟩ := mem_split s (show 64 * i + k + 1 ≤ 64 * K by omega)
          rw [h4, List.append_assoc] at hx
          obtain ⟨fn, tmps, assign, body, hy, hR⟩ := hY _ (64 * i + k) rest wr hJm hx
          have e1 : ((64 * i + k : Nat) : Int) = (i : Int) * 64 + k := by omega
          rw [e1] at hy
          rw [← h4] at hR
          have hand := bits_and_u64_nat (lft s i m) (lft s i m - 1) (lft_lt s i m) (by have := lft_lt s i m; omega)
          rw [h5] at hand
          have e2 : ((lft s i m - 1 : Nat) : Int) = (lft s i m : Int) - 1 := by omega
          rw [e2] at hand
          have hlt2 := and_pred_lt h0'
          rw [h5] at hlt2
          have hbd := lft_lt s i m
          gi_wp2_with (first
            | (refine ⟨trivial, ?_⟩; gi_at_call 86; (refine (callsIn_wide.2 ht).mono ?_); rintro e w' ⟨rfl, hw'⟩; rw [hw']; clear hw' w'))
          refine hR.mono ?_
          rintro e W3 (⟨rfl, hJ3, _⟩ | ⟨rfl, hJx3, _⟩)
          · gi_wp2
            exact ⟨⟨k + 1, by omega, rfl, by rw [← Nat.add_assoc]; exact hJ3⟩, by simp [intOf]; omega⟩
          · gi_wp2
            refine bodyPost_ret (results_none rfl _ _ _) rfl ?_
            exact ⟨⟨_, rfl⟩, .inr ⟨_, ⟨rest, by rw [h4, hx]; simp⟩, hJx3⟩⟩
    · obtain rfl : i = K := by omega
      gi_wp2
      go_end0
      exact ⟨⟨_, rfl⟩, .inl hJ⟩
end Go.Proofs.YtmfdlcicbiincaaDoor
