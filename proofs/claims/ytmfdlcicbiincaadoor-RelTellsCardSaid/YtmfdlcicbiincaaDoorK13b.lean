/- Sync, where there are no events. -/
import Derived.RangeFuncBox
import Derived.RangeFuncNested
import Derived.RangeFuncBound
import Derived.RangeFuncCalls
import Derived.RangeFuncLeaves
import Derived.Shelf.Abstract
import Derived.Shelf.RegionOpen
import Derived.WalkKit
import Derived.OwnWalkIn
import Derived.TacticsInMore
import Derived.LoopNIn
import Derived.LoopIn
import Derived.Maps.AppendAt
import Derived.KernelRfl
import Derived.Lib.Hide
import Derived.WalkSpells
import Derived.Handy
import Derived.Test.YtmfdlcicbiincaaDoorK13
namespace Go.Proofs.YtmfdlcicbiincaaDoor
open Go.RowKit

open Go.Shelf
attribute [local go_sem] Oper.semAt_some

set_option maxRecDepth 100000 in
set_option maxHeartbeats 4000000 in
theorem sync_0 {A B : Option Addr} {n c m d : Nat} {K : Nat} {R : Nat → Nat → Bool} (w : World) (hL : Lai w) (hF : ∀ w', Plus w w' → Calls Tryd.prog 14 #[.agg #[.slice A n c, .slice B m d]] w' (RetRl 0 K R w')) : CallsIn Fence.wide 9 Tryd.prog 16 #[.agg #[.slice A n c, .slice B m d]] w (RetRl 0 K R w) := by
  have HL := Lib.hid hL
  clear hL
  refine callsIn_of_wp_marks Tryd.func16 rfl trivial ?_ rfl
  simp only [Tryd.ntmps16, List.size_toArray, List.length_cons, List.length_nil, Nat.reduceAdd, Nat.reduceSub, Array.replicate_succ, Array.replicate_zero, List.push_toArray, List.append_toArray, List.nil_append, List.cons_append]
  gi_wp2_with (first
    | (refine ⟨trivial, ?_⟩; gi_at_call 14; (refine (callsIn_wide.2 (hF _ (by repeat' (first | exact Plus.refl _ | refine Plus.alloc ?_ _ | refine Plus.plus ?_ _ | refine Plus.drew ?_ | refine Plus.drewN ?_ _)))).mono ?_); rintro e w' ⟨p1, hs1, rfl, hRl1, ⟨x1, rfl⟩⟩; have HR1 := Lib.hid hRl1; clear hRl1)
    | (refine ⟨trivial, ?_⟩; gi_at_call 42; (refine (callsIn_wide.2 (len_r _ HR1.out)).mono ?_); rintro e w' ⟨rfl, hw'⟩; rw [hw']; clear hw' w')
    | (refine ⟨trivial, ?_⟩; gi_at_call 47; (refine (callsIn_wide.2 (without_c (n := 0) (K := 0) _ (Lib.hid rfl) (by omega))).mono ?_); rintro e w' ⟨hs2, rfl, hRl2, _, ⟨x2, rfl⟩⟩; have HR2 := Lib.hid hRl2; clear hRl2)
    | (refine ⟨trivial, ?_⟩; gi_at_call 51; (refine (callsIn_wide.2 (pairs_c _)).mono ?_); rintro e w' ⟨rfl, hw'⟩; rw [hw']; clear hw' w'))
  obtain ⟨A1, c1, hf1⟩ := HR1.out.form
  obtain ⟨W1, hW1⟩ : ∃ W1, plus (w.alloc (.cells #[.slice A n c, .slice B m d] 25)) x1 = W1 := ⟨_, rfl⟩
  have hP1 : Plus w W1 := by rw [← hW1]; exact (by repeat' (first | exact Plus.refl _ | refine Plus.alloc ?_ _ | refine Plus.plus ?_ _ | refine Plus.drew ?_ | refine Plus.drewN ?_ _))
  have hsz : W1.heap.size = w.heap.size + 1 + x1.blocks.length := by rw [← hW1]; simp [go_sem]
  rw [hW1] at HR1 HR2 hf1 ⊢
  clear hW1
  rw [← hsz]
  obtain ⟨Z1, hZ1⟩ : ∃ Z1, W1.heap.size = Z1 := ⟨_, rfl⟩
  obtain ⟨T, hT⟩ : ∃ T, Z1 + x2.blocks.length = T := ⟨_, rfl⟩
  rw [hZ1] at HR2 hsz ⊢
  have HSZ := Lib.hid hsz
  clear hsz
  rw [hT]
  obtain ⟨W2, hW2⟩ : ∃ W2, ((plus W1 x2).alloc (.cells #[.pointer (some ⟨Z1, 0, none⟩)] 33)).alloc (.cells #[.pointer (some ⟨p1, 0, none⟩)] 33) = W2 := ⟨_, rfl⟩
  have szp : (plus W1 x2).heap.size = T := by rw [size_plus, hZ1, hT]
  have sz2 : W2.heap.size = T + 2 := by rw [← hW2]; simp [szp]
  have b1 : Boxed W2 T 33 (.pointer (some ⟨Z1, 0, none⟩)) := by rw [← hW2]; exact (bx_at _ _ _ szp.symm).alloc _
  have b2 : Boxed W2 (T + 1) 33 (.pointer (some ⟨p1, 0, none⟩)) := by rw [← hW2]; exact bx_at _ _ _ (by simp [szp])
  have hB2 : Below Z1 W1 W2 := by rw [← hW2, ← hZ1]; exact Plus.below (by repeat' (first | exact Plus.refl _ | refine Plus.alloc ?_ _ | refine Plus.plus ?_ _ | refine Plus.drew ?_ | refine Plus.drewN ?_ _))
  have hR2 : Rl W2 Z1 Z1 0 0 (fun _ _ => false) hs2 := by rw [← hW2]; exact HR2.out.plus (by repeat' (first | exact Plus.refl _ | refine Plus.alloc ?_ _ | refine Plus.plus ?_ _ | refine Plus.drew ?_ | refine Plus.drewN ?_ _))
  rw [hW2]
  clear hW2 HR2
  refine range_o (gf := 74) (lb := #[.pointer (some ⟨T + 1, 0, none⟩)]) rfl (enters_of Tryd.func74 (by kernel_rfl) rfl) (pairs_seq (R := R) (K := 0) (n := 0) (p := p1) (B := (w.alloc (.cells #[.slice A n c, .slice B m d] 25)).heap.size) (hs := hs1) (A := A1) (c := c1) (b := T + 1) (by omega) (by omega)) (fun _ => rfl)
    (fun pre V => ((Rl V Z1 Z1 0 0 (fun _ _ => false) hs2 ∧ Boxed V T 33 (.pointer (some ⟨Z1, 0, none⟩))) ∧ Boxed V (T + 1) 33 (.pointer (some ⟨p1, 0, none⟩))) ∧ Below Z1 W1 V)
    (fun c pre V => False)
    ?hI ?hIx ?hFx ?h0 (fun x => { tmps := #[.agg #[.slice A n c, .slice B m d], .pointer (some ⟨w.heap.size, 0, none⟩), .pointer none, .pointer (some ⟨p1, 0, none⟩), .pointer (some ⟨T, 0, none⟩), .int .i64 (x.1 : Nat), .int .i64 (x.2 : Nat), .agg #[.slice A n c, .slice B m d], .pointer (some ⟨p1, 0, none⟩), .pointer (some ⟨p1, 0, none⟩), .int .i64 0, .pointer (some ⟨Z1, 0, none⟩), .pointer (some ⟨p1, 0, none⟩), .func (.func 74) #[] #[.pointer (some ⟨T + 1, 0, none⟩)], .int .i64 (x.1 : Nat), .int .i64 (x.2 : Nat), undef, undef, undef, undef, undef, undef, undef, undef, undef, undef, undef, undef, undef, undef, undef, undef, undef, undef, undef, undef, undef, undef, undef, undef, undef, undef, undef, undef], defers := [] }) ?assign ?body ?done ?stop
  case assign =>
    intro l x W K hK
    gi_wp2
    exact hK
  case hI => exact OwnFrom.and (OwnFrom.and (OwnFrom.and (rl_own (fun (pre : List (Nat × Nat)) x y => false)) ((boxed_own _ _ _).from _)) ((boxed_own _ _ _).from _)) (ownFrom_below (by rw [hZ1]; exact Nat.le_refl _) (by omega))
  case hIx => exact fun c s W W' row hs hg hr => hs
  case hFx =>
    rintro pre V ⟨⟨_, h33⟩, hB⟩
    have q := Plus.of_below (by rw [hZ1]; exact hB)
    exact ⟨HL.out.plus (hP1.trans q), h33, bx_plus hf1 q, ⟨(HR1.out.plus q).box.imp fun v h => ⟨h.1, by have e := (HR1.out.plus q).len; rw [List.length_eq_zero_iff.1 e] at h ⊢; exact h.2⟩, (HR1.out.plus q).len, (HR1.out.plus q).nd, (HR1.out.plus q).low, (HR1.out.plus q).plow, fun a ha => absurd ha (by omega)⟩⟩
  case h0 => exact ⟨⟨⟨hR2, b1⟩, b2⟩, hB2⟩
  case stop =>
    rintro D c pre V hD _ h _
    exact h.elim
  case body =>
    rintro l2 pre x rest V hl _ hx
    simp [prs] at hx
  case done =>
    rintro D V hD ⟨⟨⟨hR, hbT⟩, h33⟩, hB⟩ hDd
    have hq := Plus.of_below (by rw [hZ1]; exact hB)
    have cT := hbT.cell
    have lT := hbT.lt
    have HRV := Lib.hid hR
    clear hR
    gi_wp2_with (refine ⟨trivial, ?_⟩; gi_at_call 42; (refine (callsIn_wide.2 (len_r _ HRV.out)).mono ?_); rintro e w' ⟨rfl, hw'⟩; rw [hw']; clear hw' w')
    have hzw : w.heap.size ≤ Z1 := by rw [← hZ1]; exact hP1.below.size
    refine ⟨by simp, .inl ⟨_, _, rfl, run_takeDeferred hDd, ?_⟩⟩
    refine ⟨_, results_tmp rfl _ _ _, Z1, [], rfl, ?_, Plus.of_below (((hP1.trans hq).below).trans (belowK_b (w := w) (Nat.le_refl _) V D _ _ (by omega) hDd rfl rfl))⟩
    have q := ((HRV.out.kr (.grown (grownBy_putObj' V D (.deferred none)) (fun r cur e z hr hk => by
      injection hr with hr
      subst hr
      rw [hDd] at hk
      injection hk with hk
      cases hk))).base hzw)
    obtain ⟨v, hv, ho⟩ := q.box
    rcases ho.2 with ⟨rfl, _⟩ | ⟨g, cap, cur, rfl, hbg, hg, hl, hm, hs', ht⟩
    · exact rl_none _ _ _ _ _ hv (by omega)
    · exact ⟨⟨_, hv, ⟨rfl, .inr ⟨g, cap, cur, rfl, hbg, hg, hl, hm, hs', by simp [rvs]⟩⟩⟩, rfl, List.nodup_nil, fun _ h => absurd h (by simp), by omega, fun a ha => absurd ha (by omega)⟩
end Go.Proofs.YtmfdlcicbiincaaDoor
