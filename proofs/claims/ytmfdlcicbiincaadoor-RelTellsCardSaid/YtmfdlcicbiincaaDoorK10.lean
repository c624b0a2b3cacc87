/- The iterator over a relation's pairs. -/
import Derived.RangeFuncBox
import Derived.RangeFuncNested
import Derived.RangeFuncBound
import Derived.RangeFuncCalls
import Derived.RangeFuncLeaves
import Derived.Shelf.Abstract
import Derived.Shelf.RegionOpen
import Derived.WalkKit
import Derived.OwnWalkIn
import Derived.TacticsInMore
import Derived.LoopNIn
import Derived.LoopIn
import Derived.Maps.AppendAt
import Derived.KernelRfl
import Derived.Lib.Hide
import Derived.WalkSpells
import Derived.Handy
import Derived.Test.YtmfdlcicbiincaaDoorK5
import Derived.Test.YtmfdlcicbiincaaDoorK9
namespace Go.Proofs.YtmfdlcicbiincaaDoor
open Go.RowKit

open Go.Shelf
attribute [local go_sem] Oper.semAt_some

/-- The marks of loops that are over. -/
def mk (D : Nat) : Deferred := { target := .collected D, args := #[] }
def Marks (Z : Nat) (Ds : List Nat) (w : World) : Prop := Ds.Nodup ∧ ∀ D ∈ Ds, Z ≤ D ∧ w.heap[D]? = some (.deferred (some []))
section
variable {Z : Nat} {Ds : List Nat} {w w' : World}
theorem Marks.kept (h : Marks Z Ds w) (hk : Kept Z w w') : Marks Z Ds w' := ⟨h.1, fun D hD => ⟨(h.2 D hD).1, hk.same D _ (h.2 D hD).1 (h.2 D hD).2 rfl⟩⟩
theorem Marks.lt (h : Marks Z Ds w) : ∀ D ∈ Ds, D < w.heap.size := fun D hD => (Array.getElem?_eq_some_iff.1 (h.2 D hD).2).1
theorem Marks.own (Z : Nat) (Ds : List Nat) {B : Nat} (hB : ∀ D ∈ Ds, D < B) {β : Type} : OwnFrom B (fun (_ : β) w => Marks Z Ds w) := fun s W W' row hs hg hr =>
  ⟨hs.1, fun D hD => ⟨(hs.2 D hD).1, (hg.block D (Marks.lt hs D hD) (fun e => by have := (hr D e.symm).1; have := hB D hD; omega)).trans (hs.2 D hD).2⟩⟩
theorem Marks.nil (Z : Nat) (w : World) : Marks Z [] w := ⟨List.nodup_nil, fun _ h => absurd h (by simp)⟩
theorem Marks.cons {D : Nat} (h : Marks Z Ds w) (hD : w.heap[D]? = some (.deferred (some []))) (hz : Z ≤ D) (hn : D ∉ Ds) : Marks Z (D :: Ds) w := ⟨List.nodup_cons.2 ⟨hn, h.1⟩, fun x hx => by
  rcases List.mem_cons.1 hx with rfl | hx
  · exact ⟨hz, hD⟩
  · exact h.2 x hx⟩
end
/-- At a return the marks are taken one after the other. -/
theorem leaves_marks {F : Fence} {n : Nat} {P : Program} {fn : Func} {tmps : Array Value} {R : Ending → World → Prop} {Z : Nat} (Q : World → Prop) (hQ : OwnFrom Z (fun (_ : Unit) w => Q w)) (hR : ∀ w, Q w → LeavesInM F n P fn tmps R [] .returning w) : ∀ (Ds : List Nat) (w : World), Marks Z Ds w → Q w → LeavesInM F n P fn tmps R (Ds.map mk) .returning w
  | [], w, _, h => hR w h
  | D :: Ds, w, hm, h => by
    have hD := hm.2 D (by simp)
    refine ⟨by simp, .inl ⟨D, _, rfl, run_takeDeferred hD.2, ?_⟩⟩
    refine leaves_marks Q hQ hR Ds _ ⟨(List.nodup_cons.1 hm.1).2, fun x hx => ⟨(hm.2 x (by simp [hx])).1, ?_⟩⟩ (hQ.putObj (s := ()) _ h hD.1 hD.2 rfl)
    exact (World.putObj_heap_other (fun e => (List.nodup_cons.1 hm.1).1 (by rw [← e]; exact hx))).trans (hm.2 x (by simp [hx])).2

theorem round_in {m k : Nat} {P : Program} {l : Nat} {f : FuncId} {tmps : Array Value} {assign body : Code} {w : World} {R : Ending → World → Prop} (l0 : Nat) (h : RoundIn Fence.wide m P l f tmps assign body w R) : RoundIn (Fence.wide.inRound l0) k P l f tmps assign body w R := round_wide (k := k) h
/-- The pairs of a relation, in order. -/
def prs (R : Nat → Nat → Bool) (K n : Nat) : List (Nat × Nat) := (List.range n).flatMap fun a => (mem (R a) (64 * K)).map fun b => (a, b)
theorem prs_succ (R : Nat → Nat → Bool) (K n : Nat) : prs R K (n + 1) = prs R K n ++ (mem (R n) (64 * K)).map fun b => (n, b) := by
  unfold prs
  rw [List.range_succ, List.flatMap_append]
  simp
theorem prs_split (R : Nat → Nat → Bool) (K : Nat) {n m : Nat} (h : n ≤ m) : ∃ r, prs R K m = prs R K n ++ r := by
  obtain ⟨d, rfl⟩ : ∃ d, m = n + d := ⟨m - n, by omega⟩
  clear h
  induction d with
  | zero => exact ⟨[], by simp⟩
  | succ d ih =>
    obtain ⟨r, hr⟩ := ih
    exact ⟨r ++ _, by rw [← Nat.add_assoc, prs_succ, hr, List.append_assoc]⟩

set_option maxRecDepth 100000 in
set_option maxHeartbeats 4000000 in
theorem pairs_in {p : Nat} (w : World) : CallsIn Fence.wide 9 Tryd.prog 51 #[.pointer (some ⟨p, 0, none⟩)] w fun e w' => e = .returned (.func (.func 74) #[] #[.pointer (some ⟨w.heap.size, 0, none⟩)]) ∧ w' = w.alloc (.cells #[.pointer (some ⟨p, 0, none⟩)] 33) := by
  refine callsIn_of_wp Tryd.func51 rfl trivial ?_ rfl
  simp only [Tryd.ntmps51, List.size_toArray, List.length_cons, List.length_nil, Nat.reduceAdd, Nat.reduceSub, Array.replicate_succ, Array.replicate_zero, List.push_toArray, List.append_toArray, List.nil_append, List.cons_append]
  gi_wp2
  go_ret
  exact ⟨rfl, rfl⟩

theorem all_c {K h c : Nat} (w : World) : Calls Tryd.prog 75 #[.slice (some ⟨h, 0, none⟩) K c] w fun e w' => e = .returned (.func (.func 85) #[] #[.pointer (some ⟨w.heap.size, 0, none⟩)]) ∧ w' = w.alloc (.cells #[.slice (some ⟨h, 0, none⟩) K c] 72) := callsIn_wide.1 (all_in w)
/-- What the iterator reads. -/
def FxP (b p B n K : Nat) (R : Nat → Nat → Bool) (hs : List Nat) (A : Option Addr) (c : Nat) (W : World) : Prop := Lai W ∧ Boxed W b 33 (.pointer (some ⟨p, 0, none⟩)) ∧ Boxed W p 69 (.slice A n c) ∧ Rl W B p n K R hs

set_option maxRecDepth 100000 in
set_option maxHeartbeats 4000000 in
theorem pairs_seq {R : Nat → Nat → Bool} {b p B n K c : Nat} {A : Option Addr} {hs : List Nat} (hK : K ≤ 100000) (hn : n ≤ 100000) : SeqO Tryd.prog 74 #[.pointer (some ⟨b, 0, none⟩)] (fun x : Nat × Nat => #[.int .i64 (x.1 : Nat), .int .i64 (x.2 : Nat)]) (FxP b p B n K R hs A c) (prs R K n) := by
  intro l J Jx W sJ sJx hF hY h0
  obtain ⟨Z, HZ⟩ : ∃ Z, Hid (Z = W.heap.size) := ⟨_, Lib.hid rfl⟩
  refine callsIn_of_wp_marks Tryd.func74 rfl trivial ?_ rfl
  simp only [Tryd.ntmps74, List.size_toArray, List.length_cons, List.length_nil, Nat.reduceAdd, Nat.reduceSub, Array.replicate_succ, Array.replicate_zero, List.push_toArray, List.append_toArray, List.nil_append, List.cons_append]
  obtain ⟨_, hb0, hbx, hrl0⟩ := hF [] W h0
  have hb1 := hb0.cell
  have hb2 := hbx.cell
  have l1 := hb0.lt
  have l2 := hbx.lt
  gi_wp2
  refine wpIn_loop (fun a wr => ∃ (i : Nat) (Ds : List Nat) (u3 u4 u5 u12 u13 u14 u15 u16 u17 u18 u19 u20 u21 u22 u23 u24 : Value), i ≤ n ∧ J (prs R K i) wr ∧ Boxed wr Z 44 (.func (.yield l) #[] #[]) ∧ Marks Z Ds wr ∧ a = { tmps := #[.func (.yield l) #[] #[], .pointer (some ⟨b, 0, none⟩), .pointer (some ⟨Z, 0, none⟩), u3, u4, u5, .pointer (some ⟨p, 0, none⟩), .pointer (some ⟨p, 0, none⟩), .pointer (some ⟨p, 0, none⟩), .slice A n c, .int .i64 n, .int .i64 i, u12, u13, u14, u15, u16, u17, u18, u19, u20, u21, u22, u23, u24], defers := Ds.map mk }) (fun a _ => ((n : Int) - intOf (a.tmps.getD 11 undef)).toNat) ?_ ?_
  · exact ⟨0, [], _, _, _, _, _, _, _, _, _, _, _, _, _, _, _, _, Nat.zero_le _, sJ.alloc _ h0, by rw [HZ.out]; exact Boxed.new _ _ _, Marks.nil _ _, by rw [HZ.out]; rfl⟩
  · rintro a wr ⟨i, Ds, u3, u4, u5, u12, u13, u14, u15, u16, u17, u18, u19, u20, u21, u22, u23, u24, hi, hJ, hT, hM, rfl⟩
    by_cases hlt : i < n
    · obtain ⟨hL, _, hp, hR⟩ := hF _ wr hJ
      obtain ⟨g2, c2, h, hh, hp2, hc2, hg2, hcl, _, hrow⟩ := hR.at_ hlt
      have hAe : Value.slice A n c = .slice (some ⟨g2, 0, none⟩) n c2 := by
        have q := hp.symm.trans hp2
        injection q with q
        injection q with q _ _
        simpa using q
      injection hAe with hA _ hcc
      subst hA hcc
      have hlt' : (i : Int) < n := by omega
      have hTl := hT.lt
      gi_wp2_with (refine ⟨trivial, ?_⟩; gi_at_call 75; (refine (callsIn_wide.2 (all_c _)).mono ?_); rintro e w' ⟨rfl, hw'⟩; rw [hw']; clear hw' w')
      obtain ⟨W2, hW2⟩ : ∃ W2, (wr.alloc (.cells #[.int .i64 i] 3)).alloc (.cells #[.slice (some ⟨h, 0, none⟩) K K] 72) = W2 := ⟨_, rfl⟩
      have sz2 : W2.heap.size = wr.heap.size + 2 := by rw [← hW2]; simp
      have hk2 : Kept Z wr W2 := by rw [← hW2]; exact (Kept.alloc _ _ _).trans (Kept.alloc _ _ _)
      have hJ2 : J (prs R K i) W2 := by rw [← hW2]; exact sJ.alloc _ (sJ.alloc _ hJ)
      have b3 : Boxed W2 wr.heap.size 3 (.int .i64 i) := by rw [← hW2]; exact (Boxed.new _ _ _).alloc _
      have b59 : Boxed W2 (wr.heap.size + 1) 72 (.slice (some ⟨h, 0, none⟩) K K) := by rw [← hW2]; exact bx_at _ _ _ (by simp)
      rw [hW2]
      clear hW2
      have hZr : Z < wr.heap.size := hTl
      have hMlt := hM.lt
      refine range_o (gf := 85) (lb := #[.pointer (some ⟨wr.heap.size + 1, 0, none⟩)]) rfl (enters_of Tryd.func85 (by kernel_rfl) rfl) (all_seq (s := R i) (K := K) (h := h) (c := K) (b := wr.heap.size + 1) hK (Nat.le_refl _)) (fun _ => rfl)
        (fun pre V => (J (prs R K i ++ pre.map fun b => (i, b)) V ∧ Boxed V Z 44 (.func (.yield l) #[] #[])) ∧ (Boxed V wr.heap.size 3 (.int .i64 i) ∧ Boxed V (wr.heap.size + 1) 72 (.slice (some ⟨h, 0, none⟩) K K)) ∧ Marks Z Ds V)
        (fun c pre V => (c = .ret ∧ Jx (prs R K i ++ pre.map fun b => (i, b)) V) ∧ Marks Z Ds V)
        ?hI ?hIx ?hFx ?h0 (fun x => { tmps := #[.func (.yield l) #[] #[], .pointer (some ⟨b, 0, none⟩), .pointer (some ⟨Z, 0, none⟩), .pointer (some ⟨wr.heap.size, 0, none⟩), .slice (some ⟨h, 0, none⟩) K K, .int .i64 x, .pointer (some ⟨p, 0, none⟩), .pointer (some ⟨p, 0, none⟩), .pointer (some ⟨p, 0, none⟩), .slice (some ⟨g2, 0, none⟩) n c, .int .i64 n, .int .i64 i, .bool true, .int .i64 i, .pointer (some ⟨g2, i, none⟩), .slice (some ⟨h, 0, none⟩) K K, .slice (some ⟨h, 0, none⟩) K K, .func (.func 85) #[] #[.pointer (some ⟨wr.heap.size + 1, 0, none⟩)], .int .i64 x, u19, u20, u21, u22, u23, u24], defers := [] }) ?assign ?body ?done ?stop
      case assign =>
        intro l x W K hK
        gi_wp2
        exact hK
      case body =>
        rintro l2 pre x rest V hl2 ⟨⟨hj, ht⟩, ⟨h3, h59⟩, hm⟩ hx
        obtain ⟨r, hr⟩ := prs_split R K (show i + 1 ≤ n by omega)
        rw [prs_succ, hx, List.map_append, List.map_cons, List.append_assoc, List.append_assoc, List.cons_append, ← List.append_assoc] at hr
        obtain ⟨fn, tmps, assign, body, hy, hRd⟩ := hY _ (i, x) _ V hj hr
        dsimp only at hy
        have c3 := h3.cell
        have c47 := ht.cell
        have l3 := h3.lt
        have l47 := ht.lt
        gi_wp2
        refine (round_in l2 hRd).mono ?_
        rintro e V3 (⟨rfl, hj3, hk3⟩ | ⟨rfl, hj3, hk3⟩)
        · rw [← HZ.out] at hk3
          gi_wp2
          exact ⟨hk3.mono (by omega), ⟨by rw [List.map_append, ← List.append_assoc]; exact hj3, hk3.boxed ht (Nat.le_refl _) rfl⟩, ⟨hk3.boxed h3 (by omega) rfl, hk3.boxed h59 (by omega) rfl⟩, hm.kept hk3⟩
        · rw [← HZ.out] at hk3
          gi_wp2
          exact ⟨hk3.mono (by omega), ⟨rfl, by rw [List.map_append, ← List.append_assoc]; exact hj3⟩, hm.kept hk3⟩
      case hI => exact OwnFrom.and (OwnFrom.and (fun s A' B' row hs hg hr => (OwnFrom.mono sJ (by rw [← HZ.out]; omega)) _ A' B' row hs hg hr) ((boxed_own _ _ _).from _)) (OwnFrom.and (OwnFrom.and ((boxed_own _ _ _).from _) ((boxed_own _ _ _).from _)) (Marks.own Z Ds (fun D hD => by have := hMlt D hD; omega)))
      case hIx => exact fun c => OwnFrom.and (OwnFrom.and (ownFrom_pure _ _) (fun s A' B' row hs hg hr => (OwnFrom.mono sJx (by rw [← HZ.out]; omega)) _ A' B' row hs hg hr)) (Marks.own Z Ds (fun D hD => by have := hMlt D hD; omega))
      case hFx =>
        rintro pre V ⟨⟨hj, _⟩, ⟨_, h59⟩, _⟩
        obtain ⟨hL2, _, _, hR2⟩ := hF _ V hj
        exact ⟨hL2, h59, by rw [hh.out]; exact hR2.rows i hlt⟩
      case h0 => exact ⟨⟨by simpa using hJ2, hk2.boxed hT (Nat.le_refl _) rfl⟩, ⟨b3, b59⟩, hM.kept hk2⟩
      case done =>
        rintro D V hD ⟨⟨hj, ht⟩, _, hm⟩ hDd
        have hnD : D ∉ Ds := fun h => by have := hMlt D h; omega
        rw [← prs_succ] at hj
        gi_wp2
        exact ⟨⟨i + 1, D :: Ds, _, _, _, _, _, _, _, _, _, _, _, _, _, _, _, _, by omega, hj, ht, hm.cons hDd (by omega) hnD, by push_cast; rfl⟩, by simp [intOf]; omega⟩
      case stop =>
        rintro D c pre V hD hpre ⟨⟨rfl, hj⟩, hm⟩ hDd
        have hnD : D ∉ Ds := fun h => by have := hMlt D h; omega
        gi_wp2
        refine leaves_marks (Z := Z) (fun w => ∃ pre, pre <+: prs R K n ∧ Jx pre w) (fun s A' B' row ⟨pre, h1, h2⟩ hg hr => ⟨pre, h1, sJx pre A' B' row h2 hg (by rw [← HZ.out]; exact hr)⟩) (fun w ⟨pre, h1, h2⟩ => ⟨_, results_none rfl _ _ _, ⟨_, rfl⟩, .inr ⟨pre, h1, h2⟩⟩) (D :: Ds) V (hm.cons hDd (by omega) hnD) ⟨_, ?_, hj⟩
        obtain ⟨t, ht⟩ := hpre
        obtain ⟨r, hr⟩ := prs_split R K (show i + 1 ≤ n by omega)
        exact ⟨t.map (fun b => (i, b)) ++ r, by rw [hr, prs_succ, ← ht, List.map_append]; simp⟩
    · obtain rfl : i = n := by omega
      gi_wp2
      exact leaves_marks (Z := Z) (fun w => J (prs R K i) w) (fun s A' B' row h hg hr => sJ _ A' B' row h hg (by rw [← HZ.out]; exact hr)) (fun w h => ⟨_, results_none rfl _ _ _, ⟨_, rfl⟩, .inl h⟩) Ds wr hM hJ
end Go.Proofs.YtmfdlcicbiincaaDoor
