/- Sync. -/
import Derived.RangeFuncBox
import Derived.RangeFuncNested
import Derived.RangeFuncBound
import Derived.RangeFuncCalls
import Derived.RangeFuncLeaves
import Derived.Shelf.Abstract
import Derived.Shelf.RegionOpen
import Derived.WalkKit
import Derived.OwnWalkIn
import Derived.TacticsInMore
import Derived.LoopNIn
import Derived.LoopIn
import Derived.Maps.AppendAt
import Derived.KernelRfl
import Derived.Lib.Hide
import Derived.WalkSpells
import Derived.Handy
import Derived.Sort.BigQuietIn
import Derived.Test.YtmfdlcicbiincaaDoorK11
import Derived.Test.YtmfdlcicbiincaaDoorK12
import Derived.Test.YtmfdlcicbiincaaDoorKQ
namespace Go.Proofs.YtmfdlcicbiincaaDoor
open Go.RowKit

open Go.Shelf
attribute [local go_sem] Oper.semAt_some

/-- Synchronizes with, without the log's pairs. -/
def synB (l : List Ev) (a b : Nat) : Bool := synE (l.getD a default) (l.getD b default)
def frmSyn (l : List Ev) (pre : List (Nat × Nat)) (x : Nat) : Nat → Bool := fun y => decide ((x, y) ∈ pre) && synB l x y
theorem rl_own {β : Type} {Z B p n K : Nat} {hs : List Nat} (R : β → Nat → Nat → Bool) : OwnFrom Z (fun s V => Rl V B p n K (R s) hs) := fun s W W' row h hg hr =>
  h.kr (.grown hg fun r cur e z hr' hk => by
    obtain ⟨_, o, ho, hc⟩ := hr r hr'
    rw [hk] at ho
    injection ho with ho
    subst ho
    exact absurd hc (by simp [Obj.isCells]))
set_option maxRecDepth 100000 in
set_option maxHeartbeats 1000000 in
theorem sync_t {l : List Ev} {ps : List Pr} {A B : Option Addr} {n c m d : Nat} {K : Nat} (w : World) (hL : Lai w) (H : Lg w l ps A n c B m d) (HM : Hid (MayP l ps)) (hK : Hid (K = (n + 63) / 64)) (h0 : 0 < n) : CallsIn Fence.wide 9 Tryd.prog 16 #[.agg #[.slice A n c, .slice B m d]] w (RetRl n K (fun a b => (frmB l a b && synB l a b) || prB ps a b) w) := by
  have hn : n ≤ 1000 := by rw [H.len.1]; exact HM.out.1
  have hnl := Lib.hid H.len.1
  have hk := Lib.hid (show n ≤ 64 * K ∧ K ≤ 1000 by rw [hK.out]; omega)
  obtain ⟨⟨rs, hrl, hes⟩, hpa⟩ := H
  have hc := hes.cap
  have hcm := hes.max
  have HLG := Lib.hid (show Lg w l ps A n c B m d from ⟨⟨rs, hrl, hes⟩, hpa⟩)
  have HE := Lib.hid hes
  have HRL := Lib.hid hrl
  have HP := Lib.hid hpa
  have HL := Lib.hid hL
  clear hes hpa hrl hL
  refine callsIn_of_wp_marks Tryd.func16 rfl trivial ?_ rfl
  simp only [Tryd.ntmps16, List.size_toArray, List.length_cons, List.length_nil, Nat.reduceAdd, Nat.reduceSub, Array.replicate_succ, Array.replicate_zero, List.push_toArray, List.append_toArray, List.nil_append, List.cons_append]
  gi_wp2_with (first
    | (refine ⟨trivial, ?_⟩; gi_at_call 14; (refine (callsIn_wide.2 (from_t _ (HLG.out.plus (by repeat' (first | exact Plus.refl _ | refine Plus.alloc ?_ _ | refine Plus.plus ?_ _ | refine Plus.drew ?_ | refine Plus.drewN ?_ _))) HM hK)).mono ?_); rintro e w' ⟨p1, hs1, rfl, hRl1, ⟨x1, rfl⟩⟩; have HR1 := Lib.hid hRl1; clear hRl1)
    | (refine ⟨trivial, ?_⟩; gi_at_call 42; (refine (callsIn_wide.2 (len_r _ HR1.out)).mono ?_); rintro e w' ⟨rfl, hw'⟩; rw [hw']; clear hw' w')
    | (refine ⟨trivial, ?_⟩; gi_at_call 47; (refine (callsIn_wide.2 (without_c _ hK (by omega))).mono ?_); rintro e w' ⟨hs2, rfl, hRl2, _, ⟨x2, rfl⟩⟩; have HR2 := Lib.hid hRl2; clear hRl2)
    | (refine ⟨trivial, ?_⟩; gi_at_call 51; (refine (callsIn_wide.2 (pairs_c _)).mono ?_); rintro e w' ⟨rfl, hw'⟩; rw [hw']; clear hw' w'))
  obtain ⟨A1, c1, hf1⟩ := HR1.out.form
  have hBx := (bx_new w (.slice A n c) (.slice B m d)).plus (Plus.is x1)
  obtain ⟨W1, hW1⟩ : ∃ W1, plus (w.alloc (.cells #[.slice A n c, .slice B m d] 25)) x1 = W1 := ⟨_, rfl⟩
  have hP1 : Plus w W1 := by rw [← hW1]; exact (by repeat' (first | exact Plus.refl _ | refine Plus.alloc ?_ _ | refine Plus.plus ?_ _ | refine Plus.drew ?_ | refine Plus.drewN ?_ _))
  have hsz : W1.heap.size = w.heap.size + 1 + x1.blocks.length := by rw [← hW1]; simp [go_sem]
  rw [hW1] at HR1 HR2 hf1 hBx ⊢
  clear hW1
  rw [← hsz]
  obtain ⟨Z1, hZ1⟩ : ∃ Z1, W1.heap.size = Z1 := ⟨_, rfl⟩
  obtain ⟨T, hT⟩ : ∃ T, Z1 + x2.blocks.length = T := ⟨_, rfl⟩
  rw [hZ1] at HR2 hsz ⊢
  have HSZ := Lib.hid hsz
  clear hsz
  rw [hT]
  obtain ⟨W2, hW2⟩ : ∃ W2, ((plus W1 x2).alloc (.cells #[.pointer (some ⟨Z1, 0, none⟩)] 33)).alloc (.cells #[.pointer (some ⟨p1, 0, none⟩)] 33) = W2 := ⟨_, rfl⟩
  have szp : (plus W1 x2).heap.size = T := by rw [size_plus, hZ1, hT]
  have sz2 : W2.heap.size = T + 2 := by rw [← hW2]; simp [szp]
  have b1 : Boxed W2 T 33 (.pointer (some ⟨Z1, 0, none⟩)) := by rw [← hW2]; exact (bx_at _ _ _ szp.symm).alloc _
  have b2 : Boxed W2 (T + 1) 33 (.pointer (some ⟨p1, 0, none⟩)) := by rw [← hW2]; exact bx_at _ _ _ (by simp [szp])
  have hB2 : Below Z1 W1 W2 := by rw [← hW2, ← hZ1]; exact Plus.below (by repeat' (first | exact Plus.refl _ | refine Plus.alloc ?_ _ | refine Plus.plus ?_ _ | refine Plus.drew ?_ | refine Plus.drewN ?_ _))
  have hR2 : Rl W2 Z1 Z1 n K (fun _ _ => false) hs2 := by rw [← hW2]; exact HR2.out.plus (by repeat' (first | exact Plus.refl _ | refine Plus.alloc ?_ _ | refine Plus.plus ?_ _ | refine Plus.drew ?_ | refine Plus.drewN ?_ _))
  have hTZ : Z1 < T := by
    obtain ⟨A', c', q⟩ := HR2.out.form
    have q := q.lt
    rw [szp] at q
    exact q
  rw [hW2]
  clear hW2 HR2
  refine range_o (gf := 74) (lb := #[.pointer (some ⟨T + 1, 0, none⟩)]) rfl (enters_of Tryd.func74 (by kernel_rfl) rfl) (pairs_seq (R := frmB l) (K := K) (n := n) (p := p1) (B := (w.alloc (.cells #[.slice A n c, .slice B m d] 25)).heap.size) (hs := hs1) (A := A1) (c := c1) (b := T + 1) (by have := hk.out; omega) (by omega)) (fun _ => rfl)
    (fun pre V => ((Rl V Z1 Z1 n K (fun x y => decide ((x, y) ∈ pre) && synB l x y) hs2 ∧ Boxed V T 33 (.pointer (some ⟨Z1, 0, none⟩))) ∧ Boxed V (T + 1) 33 (.pointer (some ⟨p1, 0, none⟩))) ∧ Below Z1 W1 V)
    (fun c pre V => False)
    ?hI ?hIx ?hFx ?h0 (fun x => { tmps := #[.agg #[.slice A n c, .slice B m d], .pointer (some ⟨w.heap.size, 0, none⟩), .pointer none, .pointer (some ⟨p1, 0, none⟩), .pointer (some ⟨T, 0, none⟩), .int .i64 (x.1 : Nat), .int .i64 (x.2 : Nat), .agg #[.slice A n c, .slice B m d], .pointer (some ⟨p1, 0, none⟩), .pointer (some ⟨p1, 0, none⟩), .int .i64 n, .pointer (some ⟨Z1, 0, none⟩), .pointer (some ⟨p1, 0, none⟩), .func (.func 74) #[] #[.pointer (some ⟨T + 1, 0, none⟩)], .int .i64 (x.1 : Nat), .int .i64 (x.2 : Nat), undef, undef, undef, undef, undef, undef, undef, undef, undef, undef, undef, undef, undef, undef, undef, undef, undef, undef, undef, undef, undef, undef, undef, undef, undef, undef, undef, undef], defers := [] }) ?assign ?body ?done ?stop
  case assign =>
    intro l x W K hK
    gi_wp2
    exact hK
  case hI => exact OwnFrom.and (OwnFrom.and (OwnFrom.and (rl_own (fun (pre : List (Nat × Nat)) x y => decide ((x, y) ∈ pre) && synB l x y)) ((boxed_own _ _ _).from _)) ((boxed_own _ _ _).from _)) (ownFrom_below (by rw [hZ1]; exact Nat.le_refl _) (by omega))
  case hIx => exact fun c s W W' row hs hg hr => hs
  case hFx =>
    rintro pre V ⟨⟨_, h33⟩, hB⟩
    have q := Plus.of_below (by rw [hZ1]; exact hB)
    exact ⟨HL.out.plus (hP1.trans q), h33, bx_plus hf1 q, HR1.out.plus q⟩
  case h0 => exact ⟨⟨⟨hR2.ext (fun a b _ _ => by simp), b1⟩, b2⟩, hB2⟩
  case stop =>
    rintro D c pre V hD _ h _
    exact h.elim
  case body =>
    rintro l2 pre ⟨x, y⟩ rest V hl ⟨⟨⟨hR, hbT⟩, h33⟩, hB⟩ hx
    have hq := Plus.of_below (by rw [hZ1]; exact hB)
    obtain ⟨hxn, hyn⟩ : x < n ∧ y < n := by
      have q : (x, y) ∈ prs (frmB l) K n := by rw [hx]; simp
      unfold prs mem at q
      simp only [List.mem_flatMap, List.mem_range, List.mem_map, List.mem_filter, Prod.mk.injEq] at q
      obtain ⟨a, ha, b, ⟨_, hb⟩, rfl, rfl⟩ := q
      unfold frmB at hb
      rw [← hnl.out] at hb
      simp at hb
      exact ⟨ha, hb.2⟩
    have c0 := (hBx.plus hq).c0
    have cT := hbT.cell
    have lT := hbT.lt
    obtain ⟨g, o, e1, rfl, hx1, hm1, _, q0, q1, q2, q3, q4, q5, q6, q7, q8, q9⟩ := (HE.out.plus (hP1.trans hq)).at_ hxn
    obtain ⟨g', o', e2, hA, hx2, hm2, _, r0, r1, r2, r3, r4, r5, r6, r7, r8, r9⟩ := (HE.out.plus (hP1.trans hq)).at_ hyn
    injection hA with hA
    injection hA with hg' ho' _
    subst hg' ho'
    have u1 := getD_map (show x < rs.length by rw [← HE.out.len]; exact hxn) hx1
    have u2 := getD_map (show y < rs.length by rw [← HE.out.len]; exact hyn) hx2
    rw [HRL.out] at u1 u2
    obtain ⟨r, hr⟩ : ∃ r, synE e1.e e2.e = r := ⟨_, rfl⟩
    have hsy : synB l x y = r := by unfold synB; rw [u1, u2]; exact hr
    have hadd1 := add_addr g o (x * 10)
    have hadd2 := add_addr g o (y * 10)
    have lg : g < V.heap.size := by
      obtain ⟨g2, o2, e, q, _⟩ := (HE.out.plus (hP1.trans hq)).rd (by rw [← HE.out.len]; omega)
      injection e with e
      injection e with e _ _
      rw [e]
      exact q
    have hxn' : (x : Int) < n := by omega
    have hyn' : (y : Int) < n := by omega
    have HSE := Lib.hid hr
    clear hr u1 u2 hm1 hm2 hx1 hx2
    dsimp only
    gi_wp2
    haveI : Old w.heap.size V := ⟨(hBx.plus hq).lt⟩
    haveI : Old g V := ⟨lg⟩
    haveI : Old T V := ⟨lT⟩
    have hfn : Fence.wide.fn 52 := trivial
    have hfn2 : (Fence.wide.inRound l2).fn 52 := trivial
    refine regionIn_plus (by kernel_rfl) (by kernel_rfl) (by kernel_rfl) ?_
    repeat (gi_big_quiet_step ((gi_at_call 52; exact callsIn_plus (sync_c _ HSE))))
    refine wpQuietIn_nil ?_
    intro _ hw'
    obtain ⟨x7, rfl⟩ := hw'
    have hk2 := hk.out
    have hRx := hR.plus (Plus.is (w := V) x7)
    have hTx := bx_plus hbT (Plus.is (w := V) x7)
    have h33x := bx_plus h33 (Plus.is (w := V) x7)
    have hKx : Kept W2.heap.size V (plus V x7) := Kept.plus (Plus.is x7)
    have hBx2 : Below Z1 W1 (plus V x7) := hB.trans ((Plus.below (Plus.is x7)).mono (by have := hB.size; omega))
    clear q0 q1 q2 q3 q4 q5 q6 q7 q8 q9 r0 r1 r2 r3 r4 r5 r6 r7 r8 r9
    cases r
    · gi_wp2
      refine ⟨hKx, ⟨⟨hRx.ext (fun a b _ _ => ?_), hTx⟩, h33x⟩, hBx2⟩
      by_cases e : (a, b) = (x, y)
      · injection e with e e'
        subst e e'
        rw [hsy]
        simp
      · have q : decide ((a, b) ∈ pre ++ [(x, y)]) = decide ((a, b) ∈ pre) := by
          simp only [List.mem_append, List.mem_singleton, e, or_false]
        rw [q]
    · obtain ⟨g2, c2, h, hh, hb0, hc0, hg0, hcl, hfz, hrow⟩ := hRx.at_ hxn
      have HW := Lib.hid hrow
      have hbc := hb0.cell
      have hbl := hb0.lt
      clear hrow hb0 hfz
      gi_wp2_with (refine ⟨trivial, ?_⟩; gi_at_call 48; (refine (CallsIn.inRound l2 (callsIn_wide.2 (add_c _ HW.out (show y < 64 * K by omega) (by omega) (Nat.le_refl _)))).mono ?_); rintro e xw ⟨⟨v, rfl⟩, hw'⟩; rw [hw']; clear hw')
      have hkS := (Rw.kept (B := W2.heap.size) (i := y / 64) (v := .int .u64 (W64 (wth (frmSyn l pre x) y) (y / 64) : Nat)) HW.out)
      have hlow := hRx.lowat hxn hh.out
      have key : Rl ((plus V x7).setCell ⟨h, y / 64, none⟩ (.int .u64 (W64 (wth (frmSyn l pre x) y) (y / 64) : Nat))) Z1 Z1 n K (fun a b => decide ((a, b) ∈ pre ++ [(x, y)]) && synB l a b) hs2 := (hRx.setBit hxn hh.out).ext (fun a b _ _ => by
        unfold adds
        by_cases e : (a, b) = (x, y)
        · injection e with e e'
          subst e e'
          rw [hsy]
          simp
        · have q : decide ((a, b) ∈ pre ++ [(x, y)]) = decide ((a, b) ∈ pre) := by
            simp only [List.mem_append, List.mem_singleton, e, or_false]
          have q2 : (a == x && b == y) = false := by
            cases q3 : (a == x && b == y)
            · rfl
            · simp at q3
              exact absurd (by rw [q3.1, q3.2]) e
          rw [q, q2, Bool.or_false])
      have dr : ∀ X : World, Plus X X.drew := fun X => Plus.drew (Plus.refl X)
      have hT2 : Boxed ((plus V x7).setCell ⟨h, y / 64, none⟩ (.int .u64 (W64 (wth (frmSyn l pre x) y) (y / 64) : Nat))) T 33 (.pointer (some ⟨Z1, 0, none⟩)) := (Rw.kept (B := 0) HW.out).boxed hTx (Nat.zero_le _) rfl
      have h332 : Boxed ((plus V x7).setCell ⟨h, y / 64, none⟩ (.int .u64 (W64 (wth (frmSyn l pre x) y) (y / 64) : Nat))) (T + 1) 33 (.pointer (some ⟨p1, 0, none⟩)) := (Rw.kept (B := 0) HW.out).boxed h33x (Nat.zero_le _) rfl
      have hB3 : Below Z1 W1 ((plus V x7).setCell ⟨h, y / 64, none⟩ (.int .u64 (W64 (wth (frmSyn l pre x) y) (y / 64) : Nat))) := Below.set hBx2 hlow
      first
        | exact ⟨(hKx.trans hkS).trans (Kept.plus (dr _)), ⟨⟨key.plus (dr _), bx_plus hT2 (dr _)⟩, bx_plus h332 (dr _)⟩, hB3.drew⟩
        | exact ⟨(hKx.trans hkS), ⟨⟨key, hT2⟩, h332⟩, hB3⟩
  case done =>
    rintro D V hD ⟨⟨⟨hR, hbT⟩, h33⟩, hB⟩ hDd
    have hq := Plus.of_below (by rw [hZ1]; exact hB)
    have c1 := (hBx.plus hq).c1
    have l0 := (hBx.plus hq).lt
    have cT := hbT.cell
    have lT := hbT.lt
    have HRV := Lib.hid hR
    clear hR
    gi_wp2_with (first
      | (refine ⟨trivial, ?_⟩; gi_at_call 42; (refine (callsIn_wide.2 (len_r _ HRV.out)).mono ?_); rintro e w' ⟨rfl, hw'⟩; rw [hw']; clear hw' w')
      | (refine ⟨trivial, ?_⟩; gi_at_call 53; (refine (callsIn_wide.2 (addPairs_c W1 _ hq (HP.out.plus hP1) HRV.out (by rw [hZ1]; exact Nat.le_refl _) hk hn (by have := HM.out.2.1; rw [HP.out.len]; exact this) (Lib.hid (by rw [hnl.out]; exact HM.out.2.2.1)))).mono ?_); rintro e w' ⟨⟨v, rfl⟩, hRf, hPf, hKf⟩; have hTf := hKf.boxed hbT (Nat.zero_le _) rfl; have cTf := hTf.cell; have lTf := hTf.lt))
    have hDf := hKf.same D _ (Nat.zero_le _) hDd rfl
    have hzw : w.heap.size ≤ Z1 := by rw [← hZ1]; exact hP1.below.size
    refine ⟨by simp, .inl ⟨_, _, rfl, run_takeDeferred hDf, ?_⟩⟩
    refine ⟨_, results_tmp rfl _ _ _, Z1, hs2, rfl, ?_, Plus.of_below (((hP1.trans hPf).below).trans (belowK_b (w := w) (Nat.le_refl _) w' D _ _ (by omega) hDf rfl rfl))⟩
    refine (((hRf.kr (.grown (grownBy_putObj' w' D (.deferred none)) (fun r cur e z hr hk => ?_)))).base hzw).ext (fun a b ha hb => ?_)
    · injection hr with hr
      subst hr
      rw [hDf] at hk
      injection hk with hk
      cases hk
    · have q : decide ((a, b) ∈ prs (frmB l) K n) = frmB l a b := by
        have q2 : (a, b) ∈ prs (frmB l) K n ↔ frmB l a b = true := by
          unfold prs mem
          simp only [List.mem_flatMap, List.mem_range, List.mem_map, List.mem_filter, Prod.mk.injEq]
          constructor
          · rintro ⟨a', _, b', ⟨_, h⟩, rfl, rfl⟩
            exact h
          · intro h
            exact ⟨a, ha, b, ⟨hb, h⟩, rfl, rfl⟩
        cases h : frmB l a b
        · simp only [decide_eq_false_iff_not]
          intro q3
          rw [q2.1 q3] at h
          cases h
        · simp only [decide_eq_true_eq]
          exact q2.2 h
      rw [q]
end Go.Proofs.YtmfdlcicbiincaaDoor
