/- What the chapter's examples fix. -/
import Derived.RangeFuncBox
import Derived.RangeFuncNested
import Derived.RangeFuncBound
import Derived.RangeFuncCalls
import Derived.RangeFuncLeaves
import Derived.Shelf.Abstract
import Derived.Shelf.RegionOpen
import Derived.WalkKit
import Derived.OwnWalkIn
import Derived.TacticsInMore
import Derived.LoopNIn
import Derived.LoopIn
import Derived.Maps.AppendAt
import Derived.KernelRfl
import Derived.Lib.Hide
import Derived.WalkSpells
import Derived.Handy
import Derived.Test.YtjojkogmbgppcaaC8
namespace Go.Proofs.Ytjojkogmbgppcaa
open Go.RowKit

open Go.Shelf
attribute [local go_sem] Oper.semAt_some

/-- A literal's cells. -/
theorem ar_lit {k : IntKind} {K : Nat} (W : World) (xs : List Nat) (e : TypeId) (n g : Nat) (cs : Array Value) (hc : cs = (vals k xs).toArray) (hg : g = W.heap.size) (hn : n = xs.length) (hm : n ≤ 1000) (hb : ∀ x ∈ xs, x < K) : Ar k K (W.alloc (.cells cs e)) (some ⟨g, 0, none⟩) xs n n := by
  subst hc hg hn
  refine ⟨fun h0 => ⟨W.heap.size, 0, rfl, by rw [World.size_alloc]; omega, fun j hj => ?_⟩, rfl, Nat.le_refl _, by omega, hb⟩
  rw [Nat.zero_add, cell_of_row (W.alloc (.cells (vals k xs).toArray e)) W.heap.size j (vals k xs).toArray e (0, 0) (World.alloc_heap_new W _)]
  rw [List.getElem?_toArray]
  unfold vals
  rw [List.getElem?_map, List.getElem?_eq_getElem hj, List.getD_eq_getElem?_getD, List.getElem?_eq_getElem hj]
  rfl
/-- The sum of what has come. -/
def sumK (l : List Nat) : Int := l.foldl (fun s v => wrap64 (s + ((v : Nat) : Int))) 0
theorem sumK_snoc (l : List Nat) (x : Nat) : sumK (l ++ [x]) = wrap64 (sumK l + ((x : Nat) : Int)) := by simp [sumK]
theorem sumK_all : sumK (ks 8) = 36 := by simp [sumK, ks, List.range', wrap64]

theorem notNil (w : World) : (binOp .eql 57 (.func (.func 49) #[] #[]) .nilFunc).run Try.prog w = .ok (.bool false) w := by kernel_rfl

@[go_sem] theorem run_field0 (a b : Int) (w : World) : (Instr.field 34 (.agg #[.int .i64 a, .int .i64 b]) 0).run Try.prog w = .ok (.int .i64 a) w := by kernel_rfl
@[go_sem] theorem run_field1 (a b : Int) (w : World) : (Instr.field 34 (.agg #[.int .i64 a, .int .i64 b]) 1).run Try.prog w = .ok (.int .i64 b) w := by kernel_rfl

set_option maxRecDepth 100000 in
set_option maxHeartbeats 4000000 in
theorem first_in (w : World) :
    CallsIn Fence.wide 9 Try.prog 12 #[] w fun e w' => e = .returned (.bool true) ∧ Below w.heap.size w w' := by
  have hw1 : wdW 2 [7] = 7 := by decide
  have hw2 : wdB 2 [7] = true := by decide
  have hc1 : chW 2 1 250 10 = 4 := by decide
  have hc2 : chB 2 1 = true := by decide
  have hc3 : chW 2 7 0 0 = 0 := by decide
  have hc4 : chB 2 7 = false := by decide
  have hW := word_c 2 (some ⟨w.heap.size, 0, none⟩) [7] 1 1 (w.alloc (.cells #[.int .u8 7] 5)) (Lib.hid (ar_lit w [7] 5 1 w.heap.size #[.int .u8 7] rfl rfl rfl (by decide) (by decide)))
  rw [hw1, hw2] at hW
  have hC1 : ∀ w, Calls Try.prog 33 #[.int .i64 2, .int .i64 1, .int .u64 250, .int .u64 10] w fun e w' => e = .returned (.tuple #[.int .u64 4, .bool true]) ∧ Plus w w' := fun w => by
    have q := change_c 2 1 250 10 w (by decide) (by decide)
    rw [hc1, hc2] at q
    exact q
  have hC2 : ∀ w, Calls Try.prog 33 #[.int .i64 2, .int .i64 7, .int .u64 0, .int .u64 0] w fun e w' => e = .returned (.tuple #[.int .u64 0, .bool false]) ∧ Plus w w' := fun w => by
    have q := change_c 2 7 0 0 w (by decide) (by decide)
    rw [hc3, hc4] at q
    exact q
  have hnf := notNil
  refine callsIn_of_wp_marks Try.func12 rfl trivial ?_ rfl
  simp only [Try.ntmps12, List.size_toArray, List.length_nil, Nat.reduceSub, Array.replicate_succ, Array.replicate_zero, List.push_toArray, List.append_toArray, List.nil_append, List.cons_append]
  gi_wp2_with (first
    | (refine ⟨trivial, ?_⟩; gi_at_call 14; (with_reducible refine (callsIn_wide.2 hW).mono ?_); rintro e w' ⟨rfl, ⟨x1, rfl⟩⟩)
    | (refine ⟨trivial, ?_⟩; gi_at_call 33; (with_reducible refine (callsIn_wide.2 (hC1 _)).mono ?_); rintro e w' ⟨rfl, ⟨x2, rfl⟩⟩)
    | (refine ⟨trivial, ?_⟩; gi_at_call 33; (with_reducible refine (callsIn_wide.2 (hC2 _)).mono ?_); rintro e w' ⟨rfl, ⟨x3, rfl⟩⟩)
    | (refine ⟨trivial, ?_⟩; gi_at_call 38; refine (kinds_in Fence.wide _ trivial rfl _).mono ?_; rintro e w' ⟨rfl, rfl⟩))
  have bN := Boxed.new (plus (plus (plus (w.alloc (.cells #[.int .u8 7] 5)) x1) x2) x3) 3 (.int .i64 0)
  have hB0 : Below w.heap.size w ((plus (plus (plus (w.alloc (.cells #[.int .u8 7] 5)) x1) x2) x3).alloc (.cells #[.int .i64 0] 3)) := Plus.below (by repeat' (first | exact Plus.refl _ | refine Plus.alloc ?_ _ | refine Plus.plus ?_ _ | refine Plus.drew ?_ | refine Plus.drewN ?_ _))
  have hsz : (plus (plus (plus (w.alloc (.cells #[.int .u8 7] 5)) x1) x2) x3).heap.size = w.heap.size + 1 + x1.blocks.length + x2.blocks.length + x3.blocks.length := by simp only [size_plus, World.size_alloc]
  rw [hsz] at bN
  obtain ⟨b, hb⟩ : ∃ b, w.heap.size + 1 + x1.blocks.length + x2.blocks.length + x3.blocks.length = b := ⟨_, rfl⟩
  rw [hb] at bN hsz ⊢
  have hwb : w.heap.size ≤ b := by omega
  generalize hW0 : (plus (plus (plus (w.alloc (.cells #[.int .u8 7] 5)) x1) x2) x3).alloc (.cells #[.int .i64 0] 3) = W0 at bN hB0 ⊢
  have hs0 : w.heap.size ≤ W0.heap.size := hB0.size
  refine wpIn_rangeFunc_ownF rfl (by decide) (gf := 49) (lb := #[]) rfl trivial (enters_of Try.func49 (by kernel_rfl) rfl)
    (kinds_stops Fence.wide (9 - 1) trivial rfl (by decide) w.heap.size W0) belowK_t (belowK_b hs0) (Below.refl _ _) (fun _ => rfl)
    (fun pre W => (Boxed W b 3 (.int .i64 (sumK (pre.map (·.1))))) ∧ Below w.heap.size w W)
    (fun c pre W => False)
    (OwnFrom.and (Own.from (fun s A B row hs hg hr => hs.kept hg (fun e => by obtain ⟨o, ho, hc⟩ := hr b e.symm; rw [show A.heap[b]? = _ from hs] at ho; cases ho; cases hc)) _) (ownFrom_below (Nat.le_refl _) hs0))
    (fun _ _ _ _ _ hs _ _ => hs)
    ⟨bN, hB0⟩
    ?a1 ?assign ?body ?done ?stop
  case assign =>
    intro l x W K hK
    gi_wp2
    exact hK
  case body =>
    rintro l pre x W ⟨hN, hB⟩ _
    have hc := hN.cell
    have hf := hN.frozen
    gi_wp2
    exact ⟨KeepsOthers.setCell _ _ _, (Below.refl w.heap.size W).setCell (p := ⟨b, 0, none⟩) hwb _, by rw [List.map_append, List.map_cons, List.map_nil, sumK_snoc]; exact hN.set _, hB.setCell (p := ⟨b, 0, none⟩) hwb _⟩
  case done =>
    rintro D ys W hD hys ⟨hN, hB⟩ hK
    rw [hys, sumK_all] at hN
    have hc := hN.cell
    have hf := hN.frozen
    have hbs : bs (szK 3) 258 = [2, 1] := by decide
    have hb1 : ∀ w, Calls Try.prog 20 #[.int .i64 3, .int .u64 258] w (NewR .u8 [2, 1] w) := fun w => by
      have q := bytes_c 3 258 w (by decide)
      rw [hbs] at q
      exact q
    have ht : toN 1 255 = -1 := by decide
    have hT : ∀ w, Calls Try.prog 28 #[.int .i64 1, .int .u64 255] w fun e w' => e = .returned (.agg #[.int .i64 0, .int .i64 (-1)]) ∧ Plus w w' := fun w => by
      have q := toNum_c 1 255 w
      rw [ht] at q
      exact q
    have hbW : Old b W := ⟨hN.lt⟩
    gi_wp2_with (refine ⟨trivial, ?_⟩; gi_at_call 20; refine (callsIn_wide.2 (hb1 _)).mono ?_; rintro e w' ⟨A, c, rfl, q1, q2, q3, ⟨y1, rfl⟩⟩)
    have hlt := ar_lit (k := .u8) (K := 256) (plus W y1) [2, 1] 5 2 (W.heap.size + y1.blocks.length) #[.int .u8 2, .int .u8 1] rfl (by rw [size_plus]) rfl (by decide) (by decide)
    have har : Ar .u8 256 ((plus W y1).alloc (.cells #[.int .u8 2, .int .u8 1] 5)) A [2, 1] 2 c := ⟨q3.alloc _, rfl, q1, q2, by decide⟩
    have hRB := refBytes_n (b := true) (Lib.hid (by decide)) _ har hlt
    gi_wp2_with (first
      | (refine ⟨trivial, ?_⟩; gi_at_call 19; (with_reducible refine (callsIn_wide.2 hRB).mono ?_); rintro e w' ⟨rfl, ⟨y2, rfl⟩⟩)
      | (refine ⟨trivial, ?_⟩; gi_at_call 28; (with_reducible refine (callsIn_wide.2 (hT _)).mono ?_); rintro e w' ⟨rfl, ⟨y3, rfl⟩⟩))
    refine ⟨trivial, ?_⟩
    gi_at_call 35
    refine (callsIn_wide.2 (list_c _)).mono ?_
    rintro e w' ⟨A2, c2, rfl, r1, r2, r3, ⟨y4, rfl⟩⟩
    gi_wp2_with fail
    have hb8 : ks 8 = [1, 2, 3, 4, 5, 6, 7, 8] := by decide
    rw [hb8] at r3
    have hl2 := ar_lit (k := .i64) (K := 9223372036854775808) (plus (plus (plus ((plus W y1).alloc (.cells #[.int .u8 2, .int .u8 1] 5)) y2) y3) y4) [1, 2, 3, 4, 5, 6, 7, 8] 3 8 (W.heap.size + y1.blocks.length + 1 + y2.blocks.length + y3.blocks.length + y4.blocks.length) #[.int .i64 1, .int .i64 2, .int .i64 3, .int .i64 4, .int .i64 5, .int .i64 6, .int .i64 7, .int .i64 8] rfl (by simp only [size_plus, World.size_alloc]) rfl (by decide) (by decide)
    have ha2 : Ar .i64 9223372036854775808 ((plus (plus (plus ((plus W y1).alloc (.cells #[.int .u8 2, .int .u8 1] 5)) y2) y3) y4).alloc (.cells #[.int .i64 1, .int .i64 2, .int .i64 3, .int .i64 4, .int .i64 5, .int .i64 6, .int .i64 7, .int .i64 8] 3)) A2 [1, 2, 3, 4, 5, 6, 7, 8] 8 c2 := ⟨r3.alloc _, rfl, r1, r2, by decide⟩
    have hRI := refInts_n (b := true) (Lib.hid (by decide)) _ ha2 hl2
    refine ⟨trivial, ?_⟩
    gi_at_call 36
    with_reducible refine (callsIn_wide.2 hRI).mono ?_
    rintro e w' ⟨rfl, ⟨y5, rfl⟩⟩
    gi_wp2_with fail
    have hPW : Plus W (plus ((plus (plus (plus ((plus W y1).alloc (.cells #[.int .u8 2, .int .u8 1] 5)) y2) y3) y4).alloc (.cells #[.int .i64 1, .int .i64 2, .int .i64 3, .int .i64 4, .int .i64 5, .int .i64 6, .int .i64 7, .int .i64 8] 3)) y5) := (by repeat' (first | exact Plus.refl _ | refine Plus.alloc ?_ _ | refine Plus.plus ?_ _ | refine Plus.drew ?_ | refine Plus.drewN ?_ _))
    have hK2 := (hPW.below.block D (Array.getElem?_eq_some_iff.1 hK).1).trans hK
    refine ⟨by simp, .inl ⟨_, _, rfl, run_takeDeferred hK2, ?_⟩⟩
    exact ⟨_, results_tmp rfl _ _ _, rfl, (hB.trans (hPW.below.mono hB.size)).trans (belowK_b (w := w) (Nat.le_refl _) _ D _ _ (by omega) hK2 rfl rfl)⟩
  case stop =>
    rintro D c pre W hD _ h _
    exact h.elim

theorem first_c (w : World) : Calls Try.prog 12 #[] w fun e w' => e = .returned (.bool true) ∧ Plus w w' :=
  (callsIn_wide.1 (first_in w)).mono fun _ _ h => ⟨h.1, .of_below h.2⟩
end Go.Proofs.Ytjojkogmbgppcaa
