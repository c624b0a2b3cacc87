/- List. -/
import Derived.RangeFuncBox
import Derived.RangeFuncNested
import Derived.RangeFuncBound
import Derived.RangeFuncCalls
import Derived.RangeFuncLeaves
import Derived.Shelf.Abstract
import Derived.Shelf.RegionOpen
import Derived.WalkKit
import Derived.OwnWalkIn
import Derived.TacticsInMore
import Derived.LoopNIn
import Derived.LoopIn
import Derived.Maps.AppendAt
import Derived.KernelRfl
import Derived.Lib.Hide
import Derived.WalkSpells
import Derived.Handy
import Derived.Test.YtmfdlcicbiincaaDoorK10
import Derived.Test.YtmfdlcicbiincaaDoorE13
namespace Go.Proofs.YtmfdlcicbiincaaDoor
open Go.RowKit

open Go.Shelf
attribute [local go_sem] Oper.semAt_some

def toPr (x : Nat × Nat) : Pr := ((x.1 : Int), (x.2 : Int))
theorem mem_len (s : Nat → Bool) (n : Nat) : (mem s n).length ≤ n := by
  unfold mem
  refine Nat.le_trans (List.length_filter_le _ _) ?_
  rw [List.length_range]
  exact Nat.le_refl _
theorem prs_len (R : Nat → Nat → Bool) (K : Nat) : ∀ n, (prs R K n).length ≤ n * (64 * K)
  | 0 => Nat.zero_le _
  | n + 1 => by
    rw [prs_succ, List.length_append, List.length_map, Nat.add_mul, Nat.one_mul]
    exact Nat.add_le_add (prs_len R K n) (mem_len _ _)
theorem pairs_c {p : Nat} (w : World) : Calls Tryd.prog 51 #[.pointer (some ⟨p, 0, none⟩)] w fun e w' => e = .returned (.func (.func 74) #[] #[.pointer (some ⟨w.heap.size, 0, none⟩)]) ∧ w' = w.alloc (.cells #[.pointer (some ⟨p, 0, none⟩)] 33) := callsIn_wide.1 (pairs_in w)
/-- A list of pairs that a call made. -/
def RetPs (qs : List Pr) (w : World) (e : Ending) (w' : World) : Prop := ∃ D c, e = .returned (.slice D qs.length c) ∧ w'.ownsRow w.heap.size 43 2 (.slice D qs.length c) qs.length (rowP qs) ∧ Plus w w'
set_option maxRecDepth 100000 in
set_option maxHeartbeats 4000000 in
theorem list_in {R : Nat → Nat → Bool} {p B n K : Nat} {hs : List Nat} (w : World) (hL : Lai w) (H : Rl w B p n K R hs) (hK : K ≤ 1000) (hn : n ≤ 1000) : CallsIn Fence.wide 9 Tryd.prog 43 #[.pointer (some ⟨p, 0, none⟩)] w (RetPs ((prs R K n).map toPr) w) := by
  obtain ⟨j0, hj, hj0, hj1, hj2⟩ := info_parts infoPr
  obtain ⟨A, c, hbx⟩ := H.form
  have hlen : (prs R K n).length ≤ 64000000 := Nat.le_trans (prs_len R K n) (by
    have q : n * (64 * K) ≤ 1000 * (64 * K) := Nat.mul_le_mul_right _ hn
    omega)
  have HBX := Lib.hid hbx
  have HR := Lib.hid H
  have HL := Lib.hid hL
  clear hbx H hL
  refine callsIn_of_wp_marks Tryd.func43 rfl trivial ?_ rfl
  simp only [Tryd.ntmps43, List.size_toArray, List.length_cons, List.length_nil, Nat.reduceAdd, Nat.reduceSub, Array.replicate_succ, Array.replicate_zero, List.push_toArray, List.append_toArray, List.nil_append, List.cons_append]
  gi_wp2_with (refine ⟨trivial, ?_⟩; gi_at_call 51; (refine (callsIn_wide.2 (pairs_c _)).mono ?_); rintro e w' ⟨rfl, hw'⟩; rw [hw']; clear hw' w')
  obtain ⟨W2, hW2⟩ : ∃ W2, (w.alloc (.cells #[.slice none 0 0] 23)).alloc (.cells #[.pointer (some ⟨p, 0, none⟩)] 33) = W2 := ⟨_, rfl⟩
  have sz2 : W2.heap.size = w.heap.size + 2 := by rw [← hW2]; simp
  have b23 : Boxed W2 w.heap.size 23 (.slice none 0 0) := by rw [← hW2]; exact (Boxed.new _ _ _).alloc _
  have b33 : Boxed W2 (w.heap.size + 1) 33 (.pointer (some ⟨p, 0, none⟩)) := by rw [← hW2]; exact bx_at _ _ _ (by simp)
  have hBW : Below w.heap.size w W2 := by rw [← hW2]; exact ((Below.refl _ w).alloc (Nat.le_refl _) _).alloc (by simp) _
  rw [hW2]
  clear hW2
  refine range_o (gf := 74) (lb := #[.pointer (some ⟨w.heap.size + 1, 0, none⟩)]) rfl (enters_of Tryd.func74 (by kernel_rfl) rfl) (pairs_seq (R := R) (K := K) (n := n) (p := p) (B := B) (hs := hs) (A := A) (c := c) (b := w.heap.size + 1) (by omega) (by omega)) (fun _ => rfl)
    (fun pre V => ((∃ v, Boxed V w.heap.size 23 v ∧ V.ownsRow w.heap.size 43 2 v pre.length (rowP (pre.map toPr)) ∧ True) ∧ Boxed V (w.heap.size + 1) 33 (.pointer (some ⟨p, 0, none⟩))) ∧ Below w.heap.size w V)
    (fun c pre V => False)
    ?hI ?hIx ?hFx ?h0 (fun x => { tmps := #[.pointer (some ⟨p, 0, none⟩), undef, .slice none 0 0, .pointer (some ⟨w.heap.size, 0, none⟩), .int .i64 (x.1 : Nat), .int .i64 (x.2 : Nat), .pointer (some ⟨p, 0, none⟩), .func (.func 74) #[] #[.pointer (some ⟨w.heap.size + 1, 0, none⟩)], .int .i64 (x.1 : Nat), .int .i64 (x.2 : Nat), undef, undef, undef, undef, undef, undef, undef], defers := [] }) ?assign ?body ?done ?stop
  case assign =>
    intro l x W K hK
    gi_wp2
    exact hK
  case hI => exact OwnFrom.and (OwnFrom.and ((holdsRow_own w.heap.size w.heap.size 23 43 2 (fun pre : List (Nat × Nat) => pre.length) (fun pre => rowP (pre.map toPr)) (fun _ _ => True)).from _) ((boxed_own _ _ _).from _)) (ownFrom_below (Nat.le_refl _) (by omega))
  case hIx => exact fun c s W W' row hs hg hr => hs
  case hFx =>
    rintro pre V ⟨⟨_, h33⟩, hB⟩
    exact ⟨HL.out.plus (.of_below hB), h33, bx_plus HBX.out (.of_below hB), HR.out.plus (.of_below hB)⟩
  case h0 => exact ⟨⟨⟨_, b23, World.ownsRow_nil _ _ _ _, trivial⟩, b33⟩, hBW⟩
  case stop =>
    rintro D c pre V hD _ h _
    exact h.elim
  case body =>
    rintro l pre x rest V hl ⟨⟨⟨v, hv, hrow, _⟩, h33⟩, hB⟩ hx
    have hpl : pre.length ≤ 64000000 := by
      have q := congrArg List.length hx
      rw [List.length_append, List.length_cons] at q
      omega
    have hc := hv.cell
    have hl2 := hv.lt
    have hB2 := hB.size
    gi_wp2_with (gi_at_builtin; refine wpListIn_append_own _ rfl _ _ 23 rfl w.heap.size 43 j0 (.agg #[.int .i64 0, .int .i64 0]) 2 16 Tryd.underlying23 hj hj0 hj1 hj2 rfl (by decide) _ _ _ rfl (hrow.alloc _) ⟨V.heap.size, 0, none⟩ 1 1 (prL (toPr x)) rfl rfl (news_at' _ _ _ _ rfl) (one_pr _) (by unfold maxLen; omega) (by omega) (by rw [World.size_alloc]; omega) ?_; intro v' w1 hown' hgrow _; obtain ⟨V1, cv1, rfl⟩ := own_form hown'; have hv1 := bx_row (hv.alloc _) hgrow (own_ty (hrow.alloc _)) (by decide); have hc1 := hv1.cell; have hf1 := hv1.frozen)
    have hk1 : Kept W2.heap.size V w1 := (Kept.alloc _ _ _).trans (Kept.of_grown hgrow (fun r o e _ ho => by
      obtain ⟨cur, z, hh⟩ := own_ty (hrow.alloc _) r e
      rw [ho] at hh
      injection hh with hh
      rw [hh]
      rfl))
    have hk2 : Kept W2.heap.size w1 (w1.setCell ⟨w.heap.size, 0, none⟩ (.slice V1 (pre.length + 1) cv1)) := Kept.of_grown (grown_set _ _ _ _) (fun r o e h _ => by
      injection e with e
      omega)
    have hB1 : Below w.heap.size w w1 := (hB.alloc hB2 _).grown hgrow (by rw [World.size_alloc]; omega) (fun j hj => own_ge hrow j hj)
    refine ⟨hk1.trans hk2, ⟨⟨_, hv1.set _, ?_, trivial⟩, ?_⟩, ?_⟩
    · rw [List.map_append, List.map_cons, List.map_nil, rowP_snoc, List.length_append]
      exact own_set hown' hv1 (by decide)
    · exact (bx_row (h33.alloc _) hgrow (own_ty (hrow.alloc _)) (by decide)).other (by omega) _
    · exact Below.set hB1 (Nat.le_refl _)
  case done =>
    rintro D V hD ⟨⟨⟨v, hv, hrow, _⟩, _⟩, hB⟩ hDd
    have hc := hv.cell
    obtain ⟨V1, cv1, rfl⟩ := own_form hrow
    gi_wp2
    refine ⟨by simp, .inl ⟨_, _, rfl, run_takeDeferred hDd, ?_⟩⟩
    refine ⟨_, results_tmp rfl _ _ _, V1, cv1, by rw [List.length_map]; rfl, ?_, Plus.of_below (hB.trans (belowK_b (w := w) (Nat.le_refl _) V D _ _ (by omega) hDd rfl rfl))⟩
    rw [List.length_map]
    exact ownsRow_putObj hrow _ hDd rfl
theorem list_c {R : Nat → Nat → Bool} {p B n K : Nat} {hs : List Nat} (w : World) (hL : Lai w) (H : Rl w B p n K R hs) (hK : K ≤ 1000) (hn : n ≤ 1000) : Calls Tryd.prog 43 #[.pointer (some ⟨p, 0, none⟩)] w (RetPs ((prs R K n).map toPr) w) := callsIn_wide.1 (list_in w hL H hK hn)
end Go.Proofs.YtmfdlcicbiincaaDoor
