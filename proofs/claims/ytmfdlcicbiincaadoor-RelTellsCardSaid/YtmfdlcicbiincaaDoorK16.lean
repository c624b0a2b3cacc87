/- complete. -/
import Derived.RangeFuncBox
import Derived.RangeFuncNested
import Derived.RangeFuncBound
import Derived.RangeFuncCalls
import Derived.RangeFuncLeaves
import Derived.Shelf.Abstract
import Derived.Shelf.RegionOpen
import Derived.WalkKit
import Derived.OwnWalkIn
import Derived.TacticsInMore
import Derived.LoopNIn
import Derived.LoopIn
import Derived.Maps.AppendAt
import Derived.KernelRfl
import Derived.Lib.Hide
import Derived.WalkSpells
import Derived.Handy
import Derived.Sort.CutIn
import Derived.Test.YtmfdlcicbiincaaDoorK15
namespace Go.Proofs.YtmfdlcicbiincaaDoor
open Go.RowKit

open Go.Shelf
attribute [local go_sem] Oper.semAt_some

theorem rw_own {β : Type} {Z h K : Nat} (s : β → Nat → Bool) : OwnFrom Z (fun t V => Rw V h K (s t)) := fun t W W' row H hg hr => H.block (hg.block h H.lt (fun e => by
  obtain ⟨_, o, ho, hc⟩ := hr h e.symm
  obtain ⟨cur, hh, _⟩ := H
  rw [hh] at ho
  injection ho with ho
  subst ho
  exact absurd hc (by simp [Obj.isCells])))
theorem region_np {F : Fence} {m : Nat} {P : Program} {c : Code} {K : Act → World → Prop} {Q' : Exit → Act → World → Prop} {a : Act} {w : World} (h : c.wpIn F m P (Exit.then K (fun _ _ _ => False)) a w) : c.wpIn F m P (Exit.then K Q') a w := wpIn_mono h (fun e a' w' q => by cases e <;> first | exact q | exact q.elim)
theorem inBlock_mono {b : Nat} {Q Q' : Exit → Act → World → Prop} (h : ∀ e a w, Q e a w → Q' e a w) : ∀ e a w, Exit.inBlock b Q e a w → Exit.inBlock b Q' e a w := fun e a w q => by
  cases e with
  | exit id =>
    have q1 : (if id = b then Q .normal a w else Q (.exit id) a w) := q
    show (if id = b then Q' .normal a w else Q' (.exit id) a w)
    by_cases e : id = b
    · rw [if_pos e] at q1 ⊢; exact h _ _ _ q1
    · rw [if_neg e] at q1 ⊢; exact h _ _ _ q1
  | normal => exact h _ _ _ q
  | ret => exact h _ _ _ q
  | goto t => exact h _ _ _ q
  | panic c => exact h _ _ _ q
  | outgrown => exact h _ _ _ q
theorem region_np2 {F : Fence} {m : Nat} {P : Program} {c : Code} {b : Nat} {K : Act → World → Prop} {Q' : Exit → Act → World → Prop} {a : Act} {w : World} (h : c.wpIn F m P (Exit.inBlock b (Exit.then K (fun _ _ _ => False))) a w) : c.wpIn F m P (Exit.inBlock b (Exit.then K Q')) a w := wpIn_mono h (inBlock_mono fun e a' w' q => by cases e <;> first | exact q | exact q.elim)
theorem marks_others {Z : Nat} {Ds : List Nat} {w w' : World} (h : Marks Z Ds w) (k : KeepsOthers w w') : Marks Z Ds w' := ⟨h.1, fun D hD => ⟨(h.2 D hD).1, k.same D _ (h.2 D hD).2 rfl⟩⟩
theorem Rl.gty {w : World} {B p n K g c : Nat} {R : Nat → Nat → Bool} {hs : List Nat} (H : Rl w B p n K R hs) (hb : Boxed w p 69 (.slice (some ⟨g, 0, none⟩) n c)) : (∃ cur, w.heap[g]? = some (.cells cur 72 (0, 0))) ∧ B ≤ g := by
  obtain ⟨⟨v, hv, ho⟩, q1, q2, q3, q4, q5⟩ := H
  obtain rfl : v = .slice (some ⟨g, 0, none⟩) n c := by
    have q := hv.symm.trans hb
    injection q with q
    injection q with q _ _
    simpa using q
  rcases ho.2 with ⟨e, _⟩ | ⟨g', cap, cur, e, hB, hg, _⟩
  · cases e
  · injection e with e1 _ _
    injection e1 with e1
    injection e1 with e1 _ _
    subst e1
    exact ⟨⟨cur, hg⟩, hB⟩
theorem kept_row {w w' : World} {B X K : Nat} {s : Nat → Bool} (H : Rw w X K s) (hg : w.grownBy w' (some X)) : Kept B w w' := .of_grown hg fun r o e _ ho => by
  injection e with e
  subst e
  obtain ⟨cur, hh, _⟩ := H
  rw [hh] at ho
  injection ho with ho
  subst ho
  rfl
theorem rl_grown {w w' : World} {B p n K X K2 : Nat} {R : Nat → Nat → Bool} {hs : List Nat} {s : Nat → Bool} (H : Rl w B p n K R hs) (hX : Rw w X K2 s) (hg : w.grownBy w' (some X)) (hn : X ∉ hs) : Rl w' B p n K R hs := by
  obtain ⟨cur, hh, _⟩ := hX
  obtain ⟨⟨v, hb, ho⟩, q1, q2, q3, q4, q5⟩ := H
  refine ⟨⟨v, bx_row hb hg (fun g e => ⟨cur, _, by injection e with e; subst e; exact hh⟩) (by decide), own_grown ho hg (fun g e => ⟨cur, _, by injection e with e; subst e; exact hh⟩) (by decide)⟩, q1, q2, q3, q4, fun a ha => ?_⟩
  refine (q5 a ha).block (hg.block _ (q5 a ha).lt (fun e => hn ?_))
  injection e with e
  rw [← e, List.getD_eq_getElem?_getD, List.getElem?_eq_getElem (by omega)]
  exact List.getElem_mem _
set_option maxRecDepth 100000 in
set_option maxHeartbeats 8000000 in
theorem complete_in {E : Nat → Nat → Bool} {B p n K : Nat} {hs : List Nat} (w0 w : World) (hp : Plus w0 w) (hL : Lai w0) (H : Rl w B p n K E hs) (hB : w0.heap.size ≤ B) (hk : Hid (n ≤ 64 * K ∧ K ≤ 1000)) (hK : Hid (K = (n + 63) / 64)) (hn : n ≤ 1000) (hE : Hid (∀ a b, E a b = true → a < b ∧ b < n)) : CallsIn Fence.wide 9 Tryd.prog 56 #[.pointer (some ⟨p, 0, none⟩)] w fun e w' => (∃ v, e = .returned v) ∧ (∃ hs', Rl w' B p n K (cloB E) hs') ∧ Plus w0 w' := by
  have hmix : Tryd.prog.follows .mixedOrders = true := by kernel_rfl
  obtain ⟨Z, HZ⟩ : ∃ Z, Hid (Z = w.heap.size) := ⟨_, Lib.hid rfl⟩
  have HR := Lib.hid H
  have HL := Lib.hid hL
  have HBB := Lib.hid hB
  have HP := Lib.hid hp
  clear H hL hB hp
  refine callsIn_of_wp_marks Tryd.func56 rfl trivial ?_ rfl
  simp only [Tryd.ntmps56, List.size_toArray, List.length_cons, List.length_nil, Nat.reduceAdd, Nat.reduceSub, Array.replicate_succ, Array.replicate_zero, List.push_toArray, List.append_toArray, List.nil_append, List.cons_append]
  gi_wp2_with (refine ⟨trivial, ?_⟩; gi_at_call 42; (refine (callsIn_wide.2 (len_r _ (HR.out.plus (by repeat' (first | exact Plus.refl _ | refine Plus.alloc ?_ _ | refine Plus.plus ?_ _ | refine Plus.drew ?_ | refine Plus.drewN ?_ _))))).mono ?_); rintro e w' ⟨rfl, hw'⟩; rw [hw']; clear hw' w')
  have hzw : w0.heap.size ≤ Z := by rw [HZ.out]; exact HP.out.below.size
  refine wpIn_loop (fun a wr => ∃ (i : Nat) (Ds : List Nat) (hs : List Nat) (t2 : Int) (u3 u4 u8 u9 u10 u11 u12 u13 u14 u15 u16 u17 u18 u19 u20 u21 u22 u23 u24 u25 u26 u27 u28 u29 u30 u31 u32 u33 u34 u35 u36 u37 u38 u39 u40 u41 u42 u43 u44 u45 u46 u47 u48 : Value), i ≤ n ∧ t2 = (i : Int) - 1 ∧ Rl wr B p n K (midB E i) hs ∧ Boxed wr Z 33 (.pointer (some ⟨p, 0, none⟩)) ∧ Marks Z Ds wr ∧ Below w0.heap.size w0 wr ∧ a = { tmps := #[.pointer (some ⟨p, 0, none⟩), .pointer (some ⟨Z, 0, none⟩), .int .i64 t2, u3, u4, .pointer (some ⟨p, 0, none⟩), .int .i64 n, .int .i64 ((n : Int) - 1), u8, u9, u10, u11, u12, u13, u14, u15, u16, u17, u18, u19, u20, u21, u22, u23, u24, u25, u26, u27, u28, u29, u30, u31, u32, u33, u34, u35, u36, u37, u38, u39, u40, u41, u42, u43, u44, u45, u46, u47, u48], defers := Ds.map mk }) (fun a _ => (intOf (a.tmps.getD 2 undef) + 1).toNat) ?_ ?_
  · refine ⟨n, [], hs, _, _, _, _, _, _, _, _, _, _, _, _, _, _, _, _, _, _, _, _, _, _, _, _, _, _, _, _, _, _, _, _, _, _, _, _, _, _, _, _, _, _, _, _, Nat.le_refl _, rfl, (HR.out.plus (by repeat' (first | exact Plus.refl _ | refine Plus.alloc ?_ _ | refine Plus.plus ?_ _ | refine Plus.drew ?_ | refine Plus.drewN ?_ _))).ext (fun a b ha _ => by rw [mid_lo ha]), by rw [HZ.out]; exact Boxed.new _ _ _, Marks.nil _ _, HP.out.below.alloc HP.out.below.size _, by rw [HZ.out]; rfl⟩
  · rintro a wr ⟨i, Ds, hs, t2, u3, u4, u8, u9, u10, u11, u12, u13, u14, u15, u16, u17, u18, u19, u20, u21, u22, u23, u24, u25, u26, u27, u28, u29, u30, u31, u32, u33, u34, u35, u36, u37, u38, u39, u40, u41, u42, u43, u44, u45, u46, u47, u48, hi, ht2, hRw, hbT, hM, hBl, rfl⟩
    clear HR
    obtain ⟨x0, rfl⟩ := Plus.of_below hBl
    have HRl := Lib.hid hRw
    have HB := Lib.hid hBl
    have HM := Lib.hid hM
    have HT := Lib.hid hbT
    have cT := hbT.cell
    have lT := hbT.lt
    clear hRw hBl hM hbT
    by_cases h0 : 0 < i
    · obtain ⟨a, rfl⟩ : ∃ a, i = a + 1 := ⟨i - 1, by omega⟩
      have ht3 : t2 = (a : Int) := by omega
      subst ht3
      clear ht2 h0
      have han : a < n := by omega
      have hX0 : ∀ h ∈ hs, h < w0.heap.size + x0.blocks.length := fun h hh => by
        obtain ⟨j, hj, rfl⟩ := List.getElem_of_mem hh
        have q := HRl.out.rows j (by rw [← HRl.out.len]; exact hj)
        rw [List.getD_eq_getElem?_getD, List.getElem?_eq_getElem hj] at q
        have q2 := q.lt
        rw [size_plus] at q2
        exact q2
      gi_wp2_with (first
        | (refine ⟨trivial, ?_⟩; gi_at_call 42; (refine (callsIn_wide.2 (len_r _ HRl.out)).mono ?_); rintro e w' ⟨rfl, hw'⟩; rw [hw']; clear hw' w')
        | (refine ⟨trivial, ?_⟩; gi_at_call 71; (refine (callsIn_wide.2 (rowFor_c _ hK.out (by omega))).mono ?_); rintro e w' ⟨rfl, hw'⟩; rw [hw']; clear hw' w'))
      obtain ⟨X, hX⟩ : ∃ X, w0.heap.size + x0.blocks.length = X := ⟨_, rfl⟩
      rw [hX] at hX0 ⊢
      have szX : (plus w0 x0).heap.size = X := by rw [size_plus, hX]
      obtain ⟨W1, hW1⟩ : ∃ W1, ((plus w0 x0).alloc (.cells (Array.replicate K (.int .u64 0)) 95)).alloc (.cells #[.slice (some ⟨X, 0, none⟩) K K] 72) = W1 := ⟨_, rfl⟩
      have sz1 : W1.heap.size = X + 2 := by rw [← hW1]; simp [szX]
      have hR1 : Rl W1 B p n K (midB E (a + 1)) hs := by rw [← hW1]; exact HRl.out.plus (by repeat' (first | exact Plus.refl _ | refine Plus.alloc ?_ _ | refine Plus.plus ?_ _ | refine Plus.drew ?_ | refine Plus.drewN ?_ _))
      have hXr : Rw W1 X K (fun _ => false) := by
        have q := Rw.new (plus w0 x0) K _ rfl
        rw [szX] at q
        rw [← hW1]
        exact q.alloc _
      have bY : Boxed W1 (X + 1) 72 (.slice (some ⟨X, 0, none⟩) K K) := by rw [← hW1]; exact bx_at _ _ _ (by simp [szX])
      have bT : Boxed W1 Z 33 (.pointer (some ⟨p, 0, none⟩)) := by rw [← hW1]; exact bx_plus HT.out (by repeat' (first | exact Plus.refl _ | refine Plus.alloc ?_ _ | refine Plus.plus ?_ _ | refine Plus.drew ?_ | refine Plus.drewN ?_ _))
      have hM1 : Marks Z Ds W1 := by rw [← hW1]; exact HM.out.kept (Kept.plus (by repeat' (first | exact Plus.refl _ | refine Plus.alloc ?_ _ | refine Plus.plus ?_ _ | refine Plus.drew ?_ | refine Plus.drewN ?_ _)))
      have hB1 : Below w0.heap.size w0 W1 := by rw [← hW1]; exact Plus.below (by repeat' (first | exact Plus.refl _ | refine Plus.alloc ?_ _ | refine Plus.plus ?_ _ | refine Plus.drew ?_ | refine Plus.drewN ?_ _))
      have hXn : X ∉ hs := fun h => by have := hX0 X h; omega
      have hBX : B ≤ X := by
        obtain ⟨A', c', q⟩ := HRl.out.form
        have q := q.lt
        have q2 := HRl.out.plow
        rw [szX] at q
        omega
      have hBB := HBB.out
      rw [hW1]
      clear hW1 HRl HT HM HB cT lT
      gi_cut [] from 49 (fun wx => Rl wx B p n K (midB E (a + 1)) hs ∧ Rw wx X K (E a) ∧ Boxed wx (X + 1) 72 (.slice (some ⟨X, 0, none⟩) K K) ∧ Boxed wx Z 33 (.pointer (some ⟨p, 0, none⟩)) ∧ Marks Z Ds wx ∧ Below w0.heap.size w0 wx ∧ X + 2 ≤ wx.heap.size)
      case first =>
        obtain ⟨g2, c2, h, hh, hb0, hc0, hg0, hcl, hfz, hrow⟩ := hR1.at_ han
        have hHX : X ≠ h := fun e => hXn (by
          rw [e, hh.out, List.getD_eq_getElem?_getD, List.getElem?_eq_getElem (by rw [hR1.len]; exact han)]
          exact List.getElem_mem _)
        have hbc := hb0.cell
        have hbl := hb0.lt
        have cY := bY.cell
        have cT := bT.cell
        have lY := bY.lt
        have lT := bT.lt
        have han' : (a : Int) < n := by omega
        have hkk := hk.out
        have HXR := Lib.hid hXr
        have HRO := Lib.hid hrow
        have HR1 := Lib.hid hR1
        have HB0 := Lib.hid hb0
        have BY := Lib.hid bY
        have BT := Lib.hid bT
        have HM1 := Lib.hid hM1
        have HB1 := Lib.hid hB1
        clear hXr hrow hR1 hb0 bY bT hM1 hB1 hfz
        refine region_np ?_
        first | (gi_region_with_o (refine ⟨trivial, ?_⟩; gi_at_call 76; (refine (callsIn_wide.2 (join_c W1.drew (HXR.out.plus (Plus.drew (Plus.refl _))) (HRO.out.plus (Plus.drew (Plus.refl _))) hHX (by omega) (Nat.le_refl _) (Nat.le_refl _))).mono ?_); rintro e xw ⟨⟨v, rfl⟩, hJ, hG⟩; have HJ := Lib.hid hJ; have HG := Lib.hid hG; clear hJ hG)) | fail
        all_goals
          gi_wp2_with fail
          gi_meet
          have hs0 : Rw W1.drew X K (fun _ => false) := HXR.out.plus (Plus.drew (Plus.refl _))
          have hkp : Kept 0 W1.drew xw := kept_row hs0 HG.out
          have hd : Plus W1 W1.drew := Plus.drew (Plus.refl _)
          refine ⟨rl_grown (HR1.out.plus hd) hs0 HG.out hXn, by have q := HJ.out; rw [mid_lo (Nat.lt_succ_self a)] at q; exact q.ext (fun _ _ => by simp [uni]), hkp.boxed (bx_plus BY.out hd) (Nat.zero_le _) rfl, hkp.boxed (bx_plus BT.out hd) (Nat.zero_le _) rfl, HM1.out.kept ((Kept.plus hd).trans (kept_row hs0 HG.out)), HB1.out.drew.grown HG.out (by have := HB1.out.size; exact this) (fun j hj => by injection hj with hj; subst hj; omega), by have q := HG.out.size; rw [← sz1]; exact q⟩
      case rest =>
        obtain ⟨hRx, hXx, hYx, hTx, hMx, hBx, hsx⟩ := hcut
        obtain ⟨g2, c2, h, hh, hb0, hc0, hg0, hcl, hfz, hrow⟩ := hRx.at_ han
        have hbc := hb0.cell
        have hbl := hb0.lt
        have cT := hTx.cell
        have lT := hTx.lt
        have han' : (a : Int) < n := by omega
        have HRX := Lib.hid hRx
        have HB0 := Lib.hid hb0
        clear hRx hb0 hrow hfz
        gi_wp2_with (refine ⟨trivial, ?_⟩; gi_at_call 75; (refine (callsIn_wide.2 (all_c _)).mono ?_); rintro e w' ⟨rfl, hw'⟩; rw [hw']; clear hw' w')
        obtain ⟨W2, hW2⟩ : ∃ W2, wc.alloc (.cells #[.slice (some ⟨h, 0, none⟩) K K] 72) = W2 := ⟨_, rfl⟩
        have sz2 : W2.heap.size = wc.heap.size + 1 := by rw [← hW2]; simp
        have hP2 : Plus wc W2 := by rw [← hW2]; exact (by repeat' (first | exact Plus.refl _ | refine Plus.alloc ?_ _ | refine Plus.plus ?_ _ | refine Plus.drew ?_ | refine Plus.drewN ?_ _))
        have b59 : Boxed W2 wc.heap.size 72 (.slice (some ⟨h, 0, none⟩) K K) := by rw [← hW2]; exact Boxed.new _ _ _
        have hB2 : Below w0.heap.size w0 W2 := by rw [← hW2]; exact hBx.alloc hBx.size _
        rw [hW2]
        clear hW2
        have hMlt := hMx.lt
        have lYx := hYx.lt
        have lXx := hXx.lt
        refine range_o (gf := 85) (lb := #[.pointer (some ⟨wc.heap.size, 0, none⟩)]) rfl (enters_of Tryd.func85 (by kernel_rfl) rfl) (all_seq (s := E a) (K := K) (h := h) (c := K) (b := wc.heap.size) (by have := hk.out; omega) (Nat.le_refl _)) (fun _ => rfl)
          (fun pre V => ((Rl V B p n K (midB E (a + 1)) hs ∧ Rw V X K (joinB E a pre)) ∧ (Boxed V (X + 1) 72 (.slice (some ⟨X, 0, none⟩) K K) ∧ Boxed V Z 33 (.pointer (some ⟨p, 0, none⟩))) ∧ Boxed V wc.heap.size 72 (.slice (some ⟨h, 0, none⟩) K K)) ∧ Marks Z Ds V ∧ Below w0.heap.size w0 V)
          (fun c pre V => False)
          ?hI ?hIx ?hFx ?h0 (fun x => { tmps := #[.pointer (some ⟨p, 0, none⟩), .pointer (some ⟨Z, 0, none⟩), .int .i64 a, .pointer (some ⟨X + 1, 0, none⟩), .int .i64 x, .pointer (some ⟨p, 0, none⟩), .int .i64 n, .int .i64 ((n : Int) - 1), .int .i64 a, .bool true, u10, u11, .pointer (some ⟨p, 0, none⟩), .int .i64 n, .slice (some ⟨X, 0, none⟩) K K, u15, u16, u17, u18, u19, u20, u21, u22, u23, .pointer (some ⟨p, 0, none⟩), .pointer (some ⟨p, 0, none⟩), .pointer (some ⟨p, 0, none⟩), .slice (some ⟨g2, 0, none⟩) n c2, .int .i64 a, .pointer (some ⟨g2, a, none⟩), .slice (some ⟨h, 0, none⟩) K K, .func (.func 85) #[] #[.pointer (some ⟨wc.heap.size, 0, none⟩)], .int .i64 x, u33, u34, u35, u36, u37, u38, u39, u40, u41, u42, u43, u44, u45, u46, u47, u48], defers := [] }) ?assign ?body ?done ?stop
        case assign =>
          intro l x W K hK
          gi_wp2
          exact hK
        case hI => exact OwnFrom.and (OwnFrom.and (OwnFrom.and (rl_own (fun _ => midB E (a + 1))) (rw_own (fun pre => joinB E a pre))) (OwnFrom.and (OwnFrom.and ((boxed_own _ _ _).from _) ((boxed_own _ _ _).from _)) ((boxed_own _ _ _).from _))) (OwnFrom.and (Marks.own Z Ds (fun D hD => by have := hMlt D hD; omega)) (ownFrom_below (Nat.le_refl _) (by have := hBx.size; omega)))
        case hIx => exact fun c s W W' row hs hg hr => hs
        case hFx =>
          rintro pre V ⟨⟨⟨hR, _⟩, _, h59⟩, _, hB⟩
          refine ⟨HL.out.plus (.of_below hB), h59, ?_⟩
          rw [hh.out]
          have q := hR.rows a han
          rw [mid_lo (Nat.lt_succ_self a)] at q
          exact q
        case h0 => exact ⟨⟨⟨HRX.out.plus hP2, by rw [joinB_nil]; exact hXx.plus hP2⟩, ⟨bx_plus hYx hP2, bx_plus hTx hP2⟩, b59⟩, hMx.kept (Kept.plus hP2), hB2⟩
        case stop =>
          rintro D c pre V hD _ h _
          exact h.elim
        case body =>
          rintro l2 pre x rest V hl ⟨⟨⟨hR, hXV⟩, ⟨hY, hT⟩, h59⟩, hMV, hBV⟩ hx
          obtain ⟨hax, hxn⟩ : a < x ∧ x < n := by
            have q : x ∈ mem (E a) (64 * K) := by rw [hx]; simp
            unfold mem at q
            exact hE.out _ _ (List.mem_filter.1 q).2
          obtain ⟨g3, c3, h3, hh3, hb3, hc3, hg3, hcl3, hfz3, hrow3⟩ := hR.at_ hxn
          have hHX : X ≠ h3 := fun e => hXn (by
            rw [e, hh3.out, List.getD_eq_getElem?_getD, List.getElem?_eq_getElem (by rw [hR.len]; exact hxn)]
            exact List.getElem_mem _)
          have hbc3 := hb3.cell
          have hbl3 := hb3.lt
          have cY := hY.cell
          have cT3 := hT.cell
          have lY := hY.lt
          have lT3 := hT.lt
          have hxn' : (x : Int) < n := by omega
          have hkk := hk.out
          have HXV := Lib.hid hXV
          have HRO := Lib.hid hrow3
          have HRV := Lib.hid hR
          clear hrow3 hb3 hfz3 hXV hR
          gi_wp2
          first | (gi_region_with_o (refine ⟨trivial, ?_⟩; gi_at_call 76; (refine (CallsIn.inRound l2 (callsIn_wide.2 (join_c V.drew (HXV.out.plus (Plus.drew (Plus.refl _))) (HRO.out.plus (Plus.drew (Plus.refl _))) hHX (by omega) (Nat.le_refl _) (Nat.le_refl _)))).mono ?_); rintro e xw ⟨⟨v, rfl⟩, hJ, hG⟩; have HJ := Lib.hid hJ; have HG := Lib.hid hG; clear hJ hG)) | fail
          all_goals
            have hs0 : Rw V.drew X K (joinB E a pre) := HXV.out.plus (Plus.drew (Plus.refl _))
            have hkp : Kept 0 V.drew xw := kept_row hs0 HG.out
            have hd : Plus V V.drew := Plus.drew (Plus.refl _)
            refine ⟨(Kept.plus hd).trans (kept_row hs0 HG.out), ⟨⟨rl_grown (HRV.out.plus hd) hs0 HG.out hXn, ?_⟩, ⟨hkp.boxed (bx_plus hY hd) (Nat.zero_le _) rfl, hkp.boxed (bx_plus hT hd) (Nat.zero_le _) rfl⟩, hkp.boxed (bx_plus h59 hd) (Nat.zero_le _) rfl⟩, hMV.kept ((Kept.plus hd).trans (kept_row hs0 HG.out)), hBV.drew.grown HG.out (by have := hBV.size; exact this) (fun j hj => by injection hj with hj; subst hj; omega)⟩
            have q := HJ.out
            rw [mid_hi (show a + 1 ≤ x by omega)] at q
            rw [joinB_snoc]
            exact q
        case done =>
          rintro D V hD ⟨⟨⟨hR, hXV⟩, ⟨hY, hT⟩, h59⟩, hMV, hBV⟩ hDd
          gi_wp2
          obtain ⟨g4, c4, h4, hh4, hb4, hc4, hg4, hcl4, hfz4, _⟩ := hR.at_ han
          obtain ⟨⟨cur4, hty4⟩, hge4⟩ := hR.gty hb4
          have hbc4 := hb4.cell
          have hbl4 := hb4.lt
          have cY := hY.cell
          have cT4 := hT.cell
          have lY := hY.lt
          have lT4 := hT.lt
          have hnD : D ∉ Ds := fun h => by have := hMlt D h; omega
          have hMc := hMV.cons hDd (by omega) hnD
          have HRV := Lib.hid hR
          have HXV := Lib.hid hXV
          have HB4 := Lib.hid hb4
          have HT4 := Lib.hid hT
          have HTY := Lib.hid hty4
          clear hR hXV hb4 hY hT hty4
          refine region_np2 ?_
          first | (gi_region_with_o (fail)) | fail
          all_goals gi_wp2_with fail
          all_goals
            refine ⟨⟨a, D :: Ds, hs.set a X, (a : Int) - 1, _, _, _, _, _, _, _, _, _, _, _, _, _, _, _, _, _, _, _, _, _, _, _, _, _, _, _, _, _, _, _, _, _, _, _, _, _, _, _, _, _, _, _, by omega, rfl, ?_, ?_, ?_, ?_, rfl⟩, by first | (simp [intOf]; done) | (simp [intOf]; omega)⟩
            · refine Rl.ext (Rl.plus ((HRV.out.plus (Plus.drew (Plus.refl _))).put (bx_plus HB4.out (Plus.drew (Plus.refl _))) han (HXV.out.plus (Plus.drew (Plus.refl _))) hXn hBX) ?pl) (fun x y _ _ => ?_)
              case pl => first | exact Plus.refl _ | exact Plus.drew (Plus.refl _)
              by_cases e : x = a
              · rw [if_pos e, joinB_all hE.out hk.out.1, e, mid_hi (Nat.le_refl _)]
              · rw [if_neg e]
                unfold midB
                have e2 : (x < a + 1) = (x < a) := by simp only [eq_iff_iff]; omega
                simp only [e2]
            · first
                | exact bx_row HT4.out (grown_set _ _ _ _) (fun g e => ⟨cur4, _, by injection e with e; subst e; exact HTY.out⟩) (by decide)
                | exact bx_plus (bx_row HT4.out (grown_set _ _ _ _) (fun g e => ⟨cur4, _, by injection e with e; subst e; exact HTY.out⟩) (by decide)) (Plus.drew (Plus.refl _))
            · first
                | exact marks_others hMc (KeepsOthers.setCell _ _ _)
                | exact marks_others hMc ((KeepsOthers.setCell _ _ _).trans (KeepsOthers.drew _))
            · first
                | exact Below.set hBV (by omega)
                | exact (Below.set hBV (by omega)).drew
    · obtain rfl : i = 0 := by omega
      subst ht2
      gi_wp2
      refine leaves_marks (Z := Z) (fun v => Rl v B p n K (cloB E) hs ∧ Below w0.heap.size w0 v) (OwnFrom.and (rl_own (fun (_ : Unit) => cloB E)) (ownFrom_below (Nat.le_refl _) hzw)) (fun v h => ⟨_, results_none rfl _ _ _, ⟨_, rfl⟩, ⟨_, h.1⟩, Plus.of_below h.2⟩) Ds _ HM.out ⟨HRl.out.ext (fun a b _ _ => by rw [mid_hi (Nat.zero_le _)]), HB.out⟩
end Go.Proofs.YtmfdlcicbiincaaDoor
