/- Of any log, and any number: reads-from, synchronizes-with and happens-before, asked, listed and ranged over, are what the document itself answers; condition: the listed variable holds what the program lays (the card ties it). -/
import Derived.WalkKit
import Derived.WalkSpells
import Derived.WalkLawsBesides
import Derived.Handy
import Derived.Deep.RegionHeld3
import Derived.Deep.DeepCutAuto
import Derived.Deep.QuietTactic
import Derived.BigQuiet
import Derived.Lib.Hide
import Derived.KernelRfl
import Derived.WalkMore
import Derived.Deep.LoopGhost
import Derived.IntWalk
import Derived.Deep.RegionLaw
import Derived.RangeFuncBox
import Derived.ProofKit
import Derived.OpenShut
import Derived.LaidMore
import Derived.Lay
import Derived.SevenTiedAt
import Derived.Stop.Joined
import Derived.Lib.SmallJoins
import Derived.ChangeSlices
import Derived.Carry
import Derived.Test.YtmfdlcicbiincaaDoorF1
import Derived.Test.YtmfdlcicbiincaaDoorL6v
import Derived.Test.YtmfdlcicbiincaaDoorR9
import Derived.Test.YtmfdlcicbiincaaDoorDE
import Derived.Test.YtmfdlcicbiincaaDoorFM
import Derived.Test.YtmfdlcicbiincaaDoorTie
import Derived.Test.YtmfdlcicbiincaaDoorCards
namespace Go.Proofs.YtmfdlcicbiincaaDoor

section
open Go.RowKit


set_option maxRecDepth 100000 in
set_option maxHeartbeats 16000000 in
theorem tells_x {l : List Ev} {ps : List Pr} {A B : Option Addr} {n c m d : Nat} {N K : Nat} {R1 R2 R3 : Nat → Nat → Bool} {z : Int} (w : World) (HLA : Hid (Lai w)) (HLG : Hid (Lg w l ps A n c B m d)) (HB : Hid (N ≤ 64 * K ∧ K ≤ 1000 ∧ N ≤ 1000))
    (HF1 : Hid (∀ w', Plus w w' → Calls Tryd.prog 14 #[.agg #[.slice A n c, .slice B m d]] w' (RetRl N K R1 w'))) (HG1' : Hid (SmL l → ∀ (V : Option Addr) (cV : Nat) w', Lg w' l ps V n cV B m d → Calls Tryd.prog 15 #[.agg #[.slice V n cV, .slice B m d]] w' (RetDoc N R1 w'))) (HE1 : Hid (∀ a b, R1 a b = true → b < N)) 
    (HF2 : Hid (∀ w', Plus w w' → Calls Tryd.prog 16 #[.agg #[.slice A n c, .slice B m d]] w' (RetRl N K R2 w'))) (HG2' : Hid (SmL l → ∀ (V : Option Addr) (cV : Nat) w', Lg w' l ps V n cV B m d → Calls Tryd.prog 17 #[.agg #[.slice V n cV, .slice B m d]] w' (RetDoc N R2 w'))) (HE2 : Hid (∀ a b, R2 a b = true → b < N)) 
    (HF3 : Hid (∀ w', Plus w w' → Calls Tryd.prog 18 #[.agg #[.slice A n c, .slice B m d]] w' (RetRl N K R3 w'))) (HG3' : Hid (SmL l → ∀ (V : Option Addr) (cV : Nat) w', Lg w' l ps V n cV B m d → Calls Tryd.prog 19 #[.agg #[.slice V n cV, .slice B m d]] w' (RetDoc N R3 w'))) (HE3 : Hid (∀ a b, R3 a b = true → b < N))  : Calls Tryd.prog 3 #[.agg #[.slice A n c, .slice B m d], .int .i64 z] w fun e w' => e = .returned (.bool true) ∧ Plus w w' := by
  go_enter Tryd.func3, Tryd.ntmps3
  go_wp2_with (first | (go_at_call 10; (with_reducible refine (first_c _ (HLA.out.plus (by repeat' (first | exact Plus.refl _ | refine Plus.alloc ?_ _ | refine Plus.plus ?_ _ | refine Plus.drew ?_ | refine Plus.drewN ?_ _)))).mono ?_); rintro e xw ⟨rfl, ⟨y0, rfl⟩⟩) | (go_at_call 11; (with_reducible refine (few_t _ (HLG.out.plus (by repeat' (first | exact Plus.refl _ | refine Plus.alloc ?_ _ | refine Plus.plus ?_ _ | refine Plus.drew ?_ | refine Plus.drewN ?_ _)))).mono ?_); rintro e xw ⟨bf, rfl, hbf, ⟨yf, rfl⟩⟩; have HBF := Lib.hid hbf; clear hbf))
  · go_returns
    exact ⟨rfl, (by repeat' (first | exact Plus.refl _ | refine Plus.alloc ?_ _ | refine Plus.plus ?_ _ | refine Plus.drew ?_ | refine Plus.drewN ?_ _))⟩
  · have hbf : bf = true := by cases bf <;> simp_all
    subst hbf
    obtain ⟨f1, f2, f3⟩ := HBF.out rfl
    have HN : Hid (n ≤ 100000) := Lib.hid (by omega)
    have HG1 := Lib.hid (HG1'.out f3)
    have HG2 := Lib.hid (HG2'.out f3)
    have HG3 := Lib.hid (HG3'.out f3)
    clear HBF f1 f2 f3 HG1' HG2' HG3'
    go_upto_region 6 with (go_at_call 12; (with_reducible refine (log_s _ (HLG.out.plus (by repeat' (first | exact Plus.refl _ | refine Plus.alloc ?_ _ | refine Plus.plus ?_ _ | refine Plus.drew ?_ | refine Plus.drewN ?_ _))) HN.out).mono ?_); rintro e xw ⟨V, cV, rfl, hGV, ⟨yg, rfl⟩⟩; have HGV := Lib.hid hGV; clear hGV)
    obtain ⟨b9, hb9⟩ : ∃ b, w.heap.size + 1 + y0.blocks.length + yf.blocks.length + yg.blocks.length = b := ⟨_, rfl⟩
    rw [hb9]
    obtain ⟨W, hW⟩ : ∃ W, (plus (plus (plus (w.alloc (.cells #[.slice A n c, .slice B m d] 25)) y0) yf) yg).alloc (.cells #[.slice V n cV, .slice B m d] 30) = W := ⟨_, rfl⟩
    have hP6 : Plus w W := by rw [← hW]; exact (by repeat' (first | exact Plus.refl _ | refine Plus.alloc ?_ _ | refine Plus.plus ?_ _ | refine Plus.drew ?_ | refine Plus.drewN ?_ _))
    have hX1 : Bt 25 W w.heap.size (.slice A n c) (.slice B m d) := by rw [← hW]; exact (bt_new w _ _ _ rfl).plus (by repeat' (first | exact Plus.refl _ | refine Plus.alloc ?_ _ | refine Plus.plus ?_ _ | refine Plus.drew ?_ | refine Plus.drewN ?_ _))
    have hX2 : Bt 30 W b9 (.slice V n cV) (.slice B m d) := by rw [← hW]; exact bt_new _ _ _ _ (by rw [← hb9]; simp [go_sem])
    have hGW := HGV.out.plus (w' := W) (by rw [← hW]; exact (by repeat' (first | exact Plus.refl _ | refine Plus.alloc ?_ _ | refine Plus.plus ?_ _ | refine Plus.drew ?_ | refine Plus.drewN ?_ _)))
    rw [hW]
    clear HGV hW hb9
    have HGV := Lib.hid hGW
    have HP6 := Lib.hid hP6
    have a0 := hX1.c0
    have a1 := hX1.c1
    have b0 := hX2.c0
    have b1 := hX2.c1
    haveI : Old w.heap.size W := ⟨hX1.lt⟩
    haveI : Old b9 W := ⟨hX2.lt⟩
    clear hX1 hX2 hGW hP6
    go_region_held3 (fun w' => w'.cell? ⟨w.heap.size, 0, none⟩ = some (.slice A n c) ∧ w'.cell? ⟨w.heap.size, 1, none⟩ = some (.slice B m d) ∧ w'.cell? ⟨b9, 0, none⟩ = some (.slice V n cV) ∧ w'.cell? ⟨b9, 1, none⟩ = some (.slice B m d)) (refine ⟨?_, ?_, ?_, ?_⟩ <;> simp [go_sem, a0, a1, b0, b1]) (first | (go_at_call 10; (with_reducible refine (first_c _ (HLA.out.plus (HP6.out.trans (by repeat' (first | exact Plus.refl _ | refine Plus.alloc ?_ _ | refine Plus.plus ?_ _ | refine Plus.drew ?_ | refine Plus.drewN ?_ _))))).mono ?_); rintro e xw ⟨rfl, ⟨y6, rfl⟩⟩) | (go_at_call 14; (with_reducible refine (HF1.out _ (HP6.out.trans (by repeat' (first | exact Plus.refl _ | refine Plus.alloc ?_ _ | refine Plus.plus ?_ _ | refine Plus.drew ?_ | refine Plus.drewN ?_ _)))).mono ?_); rintro e xw ⟨p1, hs1, rfl, hR1, ⟨x1, rfl⟩⟩; have HR1 := Lib.hid hR1; clear hR1) | (go_at_call 15; (with_reducible refine (HG1.out _ _ _ (HGV.out.plus (by repeat' (first | exact Plus.refl _ | refine Plus.alloc ?_ _ | refine Plus.plus ?_ _ | refine Plus.drew ?_ | refine Plus.drewN ?_ _)))).mono ?_); rintro e xw ⟨A1, rfl, hD1, ⟨z1, rfl⟩⟩; have HD1 := Lib.hid hD1; clear hD1) | (go_at_call 13; (with_reducible refine (same_d _ (HLA.out.plus (HP6.out.trans (by repeat' (first | exact Plus.refl _ | refine Plus.alloc ?_ _ | refine Plus.plus ?_ _ | refine Plus.drew ?_ | refine Plus.drewN ?_ _)))) (HR1.out.plus (by repeat' (first | exact Plus.refl _ | refine Plus.alloc ?_ _ | refine Plus.plus ?_ _ | refine Plus.drew ?_ | refine Plus.drewN ?_ _))) (HD1.out.plus (by repeat' (first | exact Plus.refl _ | refine Plus.alloc ?_ _ | refine Plus.plus ?_ _ | refine Plus.drew ?_ | refine Plus.drewN ?_ _))) HB.out HE1.out).mono ?_); rintro e xw ⟨rfl, ⟨v1, rfl⟩⟩) | (go_at_call 16; (with_reducible refine (HF2.out _ (HP6.out.trans (by repeat' (first | exact Plus.refl _ | refine Plus.alloc ?_ _ | refine Plus.plus ?_ _ | refine Plus.drew ?_ | refine Plus.drewN ?_ _)))).mono ?_); rintro e xw ⟨p2, hs2, rfl, hR2, ⟨x2, rfl⟩⟩; have HR2 := Lib.hid hR2; clear hR2) | (go_at_call 17; (with_reducible refine (HG2.out _ _ _ (HGV.out.plus (by repeat' (first | exact Plus.refl _ | refine Plus.alloc ?_ _ | refine Plus.plus ?_ _ | refine Plus.drew ?_ | refine Plus.drewN ?_ _)))).mono ?_); rintro e xw ⟨A2, rfl, hD2, ⟨z2, rfl⟩⟩; have HD2 := Lib.hid hD2; clear hD2) | (go_at_call 13; (with_reducible refine (same_d _ (HLA.out.plus (HP6.out.trans (by repeat' (first | exact Plus.refl _ | refine Plus.alloc ?_ _ | refine Plus.plus ?_ _ | refine Plus.drew ?_ | refine Plus.drewN ?_ _)))) (HR2.out.plus (by repeat' (first | exact Plus.refl _ | refine Plus.alloc ?_ _ | refine Plus.plus ?_ _ | refine Plus.drew ?_ | refine Plus.drewN ?_ _))) (HD2.out.plus (by repeat' (first | exact Plus.refl _ | refine Plus.alloc ?_ _ | refine Plus.plus ?_ _ | refine Plus.drew ?_ | refine Plus.drewN ?_ _))) HB.out HE2.out).mono ?_); rintro e xw ⟨rfl, ⟨v2, rfl⟩⟩) | (go_at_call 18; (with_reducible refine (HF3.out _ (HP6.out.trans (by repeat' (first | exact Plus.refl _ | refine Plus.alloc ?_ _ | refine Plus.plus ?_ _ | refine Plus.drew ?_ | refine Plus.drewN ?_ _)))).mono ?_); rintro e xw ⟨p3, hs3, rfl, hR3, ⟨x3, rfl⟩⟩; have HR3 := Lib.hid hR3; clear hR3) | (go_at_call 19; (with_reducible refine (HG3.out _ _ _ (HGV.out.plus (by repeat' (first | exact Plus.refl _ | refine Plus.alloc ?_ _ | refine Plus.plus ?_ _ | refine Plus.drew ?_ | refine Plus.drewN ?_ _)))).mono ?_); rintro e xw ⟨A3, rfl, hD3, ⟨z3, rfl⟩⟩; have HD3 := Lib.hid hD3; clear hD3) | (go_at_call 13; (with_reducible refine (same_d _ (HLA.out.plus (HP6.out.trans (by repeat' (first | exact Plus.refl _ | refine Plus.alloc ?_ _ | refine Plus.plus ?_ _ | refine Plus.drew ?_ | refine Plus.drewN ?_ _)))) (HR3.out.plus (by repeat' (first | exact Plus.refl _ | refine Plus.alloc ?_ _ | refine Plus.plus ?_ _ | refine Plus.drew ?_ | refine Plus.drewN ?_ _))) (HD3.out.plus (by repeat' (first | exact Plus.refl _ | refine Plus.alloc ?_ _ | refine Plus.plus ?_ _ | refine Plus.drew ?_ | refine Plus.drewN ?_ _))) HB.out HE3.out).mono ?_); rintro e xw ⟨rfl, ⟨v3, rfl⟩⟩))
    all_goals go_wp2_with fail
    all_goals go_returns
    all_goals exact ⟨rfl, HP6.out.trans (by repeat' (first | exact Plus.refl _ | refine Plus.alloc ?_ _ | refine Plus.plus ?_ _ | refine Plus.drew ?_ | refine Plus.drewN ?_ _))⟩

theorem tells_w {l : List Ev} {ps : List Pr} {A B : Option Addr} {n c m d : Nat} (w : World) (hL : Lai w) (H : Lg w l ps A n c B m d) (z : Int) : Calls Tryd.prog 3 #[.agg #[.slice A n c, .slice B m d], .int .i64 z] w fun e w' => e = .returned (.bool true) ∧ Plus w w' := by
  by_cases h : MayP l ps
  · have hln : n = l.length := H.len.1
    have hn : n ≤ 1000 := by rw [hln]; exact h.1
    have h0 : Hid (MayR l ps true) := Lib.hid ⟨fun _ => rfl, fun _ => h⟩
    have hb : n ≤ 64 * ((n + 63) / 64) ∧ (n + 63) / 64 ≤ 1000 ∧ n ≤ 1000 := by omega
    exact tells_x (N := n) (K := (n + 63) / 64) (R1 := frmB l) (R2 := sncB l ps) (R3 := befB l ps) w (Lib.hid hL) (Lib.hid H) (Lib.hid hb)
      (Lib.hid fun w' hp => from_m w' (H.plus hp) (Lib.hid h) (Lib.hid rfl)) (Lib.hid fun hs V cV w' hg => (rfrom_t w' hg h0 (Lib.hid h) (Lib.hid hs)).mono fun e w2 q => docR_mx hn q) (Lib.hid fun a b q => by rw [hln]; exact (frm_fwd h q).2)
      (Lib.hid fun w' hp => sync_m w' (hL.plus hp) (H.plus hp) (Lib.hid h) (Lib.hid rfl)) (Lib.hid fun hs V cV w' hg => (rsync_t w' hg h0 (Lib.hid h) (Lib.hid hs)).mono fun e w2 q => docR_mx hn q) (Lib.hid fun a b q => by rw [hln]; exact (snc_fwd h q).2)
      (Lib.hid fun w' hp => before_m w' (hL.plus hp) (H.plus hp) (Lib.hid h) (Lib.hid rfl)) (Lib.hid fun hs V cV w' hg => (rbefore_t w' hg h0 (Lib.hid h) (Lib.hid hs)).mono fun e w2 q => docR_mx hn q) (Lib.hid fun a b q => by rw [hln]; exact ((cloB_iff.1 q).fwd (edg_fwd h)).2)
  · have h0 : Hid (MayR l ps false) := Lib.hid ⟨fun q => absurd q h, fun q => by cases q⟩
    exact tells_x (N := 0) (K := 0) (R1 := fun _ _ => false) (R2 := fun _ _ => false) (R3 := fun _ _ => false) w (Lib.hid hL) (Lib.hid H) (Lib.hid (by omega))
      (Lib.hid fun w' hp => from_i w' (H.plus hp) h0) (Lib.hid fun hs V cV w' hg => (rfrom_f w' hg h0 (Lib.hid hs)).mono fun e w2 q => docR_0 q) (Lib.hid fun a b q => by cases q)
      (Lib.hid fun w' hp => sync_i w' (hL.plus hp) (H.plus hp) h0) (Lib.hid fun hs V cV w' hg => (rsync_f w' hg h0 (Lib.hid hs)).mono fun e w2 q => docR_0 q) (Lib.hid fun a b q => by cases q)
      (Lib.hid fun w' hp => before_i w' (hL.plus hp) (H.plus hp) h0) (Lib.hid fun hs V cV w' hg => (rbefore_f w' hg h0 (Lib.hid hs)).mono fun e w2 q => docR_0 q) (Lib.hid fun a b q => by cases q)
end

section
open Go.ChangeShapes Go.WideShapes Go.ChangeAt Go.RowKit Go.Joins
open Go.WideMaps Go.WideElems

set_option maxRecDepth 100000 in
theorem relTells_lifted (os : Os) (started : os.Started) (H : Type) (enc : TypeId × Value → H) :
    ReturnsInHanded {} Tryd.checked os 3 .any (fun w args => (Rows.relTellsSpec.pre enc Tryd.prog Tryd.f3 Rows.relTellsRow.domain false w args ∧ laidMetH Tryd.prog Rows.relTellsRow.laid w) ∧ sizedMet enc Tryd.prog Tryd.f3 (OpenSpec.ofChange Rows.relTellsSpec) false w args)
      (Rows.relTellsSpec.post enc Tryd.prog Tryd.f3 false true false false) := by
  refine returnsInHanded_of_change_and (C := Tryd.checked) (X := fun w _ => laidMetH Tryd.prog Rows.relTellsRow.laid w) (fun _ _ _ hh h => h.of_heap hh) ev_own started (by kernel_rfl) Tryd.func3
    (ChangeSpec.witness_shaped (enc := enc) (C := Tryd.checked) (os := os) (X := fun w _ => laidMetH Tryd.prog Rows.relTellsRow.laid w) false (World.laidAll Tryd.prog os Rows.relTellsRow.laid) #[.agg #[.slice none 0 0, .slice none 0 0], .int .i64 0] 8 (World.laidAll_os _ _ _)
      (World.shaped_of_ZipB (by kernel_rfl) (by kernel_rfl)) (by kernel_rfl) (by kernel_rfl) (by kernel_rfl)
      (by rw [MakeChecks.laidMetH_plain _ _ _ (by kernel_rfl)]; exact laidMet_laidAll _ (by kernel_rfl) (by kernel_rfl))) ?_
  intro W base args ds gs before hval0 hW hc _ hL _
  have hval : ∀ (j : Nat) t v, Tryd.f3.params[j]? = some t → args[j]? = some v → Value.okWide Tryd.prog W .any base t v := hval0
  have hW' := hW
  obtain ⟨p, q, hA0, hV, rfl, _, _⟩ := hW
  have hA : DataW.TrodAll enc Tryd.prog W 0 (fun _ => true) true Tryd.f3.params.toList args.toList ds p := hA0
  rw [Tryd.params3] at hA hval
  obtain ⟨v0, v1, d0, d1, p0, p1, rfl, rfl, rfl, h0, h1⟩ := trodAll_two hA
  obtain ⟨rfl, rfl⟩ := trodVars_none hV
  have k0 := h0
  obtain ⟨l0, ps0, A0, n0', c0, B0, m0, k0', rfl, H0⟩ := log_open (hval 0 25 v0 rfl rfl) h0
  obtain ⟨n1, rfl, rfl, rfl, w1⟩ := open_int Tryd.underlying3 (hval 1 3 v1 rfl rfl) h1
  clear hA0 hval0
  simp only [List.append_nil] at hW'
  refine (tells_w W (lai_of hL) H0 n1).mono fun e W' ⟨he, hw⟩ => ?_
  subst he
  refine ⟨_, rfl, _, _, _, [], (p0 ++ []), [], hW', ?_, ?_, ?_, hw.below.frame _, fun h => by cases h⟩
  · exact trodAll_mk1 (shut_bool Tryd.underlying4 true)
  · exact trodAll_mk2 (Below.trod ev_laid (by kernel_rfl) (of_decide_eq_true (by kernel_rfl)) k0 hw.below (fun x hx => by simpa using hW'.lt x hx)) (shut_int Tryd.underlying3 w1)
  · rfl

theorem relTells_holds : Rows.RelTellsSaid :=
  OpenClaim.holds_of_wide 3 Tryd.f3 rfl rfl rfl rfl rfl rfl rfl ⟨rfl, rfl, rfl, rfl, rfl⟩ rfl rfl rfl rfl rfl (by kernel_rfl) Tryd.func3 (by kernel_rfl)
    (of_decide_eq_true (by kernel_rfl)) (by unfold Func.isWrapper; rw [if_neg (of_decide_eq_false (by kernel_rfl))]; exact ⟨rfl, rfl⟩)
    (fun os started H enc _ => relTells_lifted os started H enc)

theorem relTells_card : Rows.RelTellsCardSaid :=
  Claim7.holds_tied_plain_at .later [] [.data] true (true, "dfa3082858ab0b5427b88d24e842a120c5c853f715f1f82cc415b54375585b6e") false
    relTells_holds (fun _ h => by cases h) (by kernel_rfl) (fun _ h => by cases h) relTells_row_tie rfl ⟨rfl, rfl⟩ (by kernel_rfl) rfl
    (fun f fn hf hfn => by
      obtain rfl : f = 3 := Option.some.inj ((show Tryd.prog.funcNamed Rows.relTellsRow.func = some 3 by kernel_rfl).symm.trans hf) |>.symm
      obtain rfl : fn = Tryd.f3 := (Option.some.inj (Tryd.func3.symm.trans hfn)).symm
      exact ⟨by kernel_rfl, fun j t ht => by
        rw [Tryd.params3] at ht
        have hm : t ∈ [25, 40, 39, 4, 3] := by
          have := Array.mem_of_getElem? ht
          simp at this
          first | (rcases this with rfl | rfl <;> simp) | (rcases this with rfl | rfl <;> simp)
        have hall : ([25, 40, 39, 4, 3].all fun u => !Tryd.prog.wantsStandIn u) = true := by kernel_rfl
        exact (show Tryd.prog.wantsStandIn t = false by simpa using List.all_eq_true.1 hall t hm)⟩)
    (by kernel_rfl)
#print axioms relTells_card
end
end Go.Proofs.YtmfdlcicbiincaaDoor
