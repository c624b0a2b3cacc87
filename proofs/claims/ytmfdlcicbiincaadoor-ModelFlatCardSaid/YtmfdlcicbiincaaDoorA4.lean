/- Of any forty stores and loads of one byte, each load of what the last store ahead stored: what a flat memory does is a valid log and a valid execution; condition: the listed variable holds what the program lays (the card ties it). -/
import Derived.Test.YtmfdlcicbiincaaDoorA4v
import Derived.Test.YtmfdlcicbiincaaDoorFM
import Derived.Test.YtmfdlcicbiincaaDoorTie
import Derived.Test.YtmfdlcicbiincaaDoorCards
import Derived.ProofKit
import Derived.OpenShut
import Derived.LaidMore
import Derived.Lay
import Derived.SevenTiedAt
import Derived.Stop.Joined
import Derived.Lib.SmallJoins
import Derived.ChangeSlices
import Derived.Carry
namespace Go.Proofs.YtmfdlcicbiincaaDoor
open Go.ChangeShapes Go.WideShapes Go.ChangeAt Go.RowKit Go.Joins
open Go.WideMaps Go.WideElems

set_option maxRecDepth 100000 in
theorem modelFlat_lifted (os : Os) (started : os.Started) (H : Type) (enc : TypeId × Value → H) :
    ReturnsInHanded {} Tryd.checked os 7 .any (fun w args => (Rows.modelFlatSpec.pre enc Tryd.prog Tryd.f7 Rows.modelFlatRow.domain false w args ∧ laidMetH Tryd.prog Rows.modelFlatRow.laid w) ∧ sizedMet enc Tryd.prog Tryd.f7 (OpenSpec.ofChange Rows.modelFlatSpec) false w args)
      (Rows.modelFlatSpec.post enc Tryd.prog Tryd.f7 false true false false) := by
  refine returnsInHanded_of_change_and (C := Tryd.checked) (X := fun w _ => laidMetH Tryd.prog Rows.modelFlatRow.laid w) (fun _ _ _ hh h => h.of_heap hh) ev_own started (by kernel_rfl) Tryd.func7
    (ChangeSpec.witness_shaped (enc := enc) (C := Tryd.checked) (os := os) (X := fun w _ => laidMetH Tryd.prog Rows.modelFlatRow.laid w) false (World.laidAll Tryd.prog os Rows.modelFlatRow.laid) #[.slice none 0 0, .slice none 0 0, .slice none 0 0, .bool false] 8 (World.laidAll_os _ _ _)
      (World.shaped_of_ZipB (by kernel_rfl) (by kernel_rfl)) (by kernel_rfl) (by kernel_rfl) (by kernel_rfl)
      (by rw [MakeChecks.laidMetH_plain _ _ _ (by kernel_rfl)]; exact laidMet_laidAll _ (by kernel_rfl) (by kernel_rfl))) ?_
  intro W base args ds gs before hval0 hW hc _ hL _
  have hval : ∀ (j : Nat) t v, Tryd.f7.params[j]? = some t → args[j]? = some v → Value.okWide Tryd.prog W .any base t v := hval0
  have hW' := hW
  obtain ⟨p, q, hA0, hV, rfl, _, _⟩ := hW
  have hA : DataW.TrodAll enc Tryd.prog W 0 (fun _ => true) true Tryd.f7.params.toList args.toList ds p := hA0
  rw [Tryd.params7] at hA hval
  obtain ⟨v0, v1, v2, v3, d0, d1, d2, d3, p0, p1, p2, p3, rfl, rfl, rfl, h0, h1, h2, h3⟩ := trodAll_four hA
  obtain ⟨rfl, rfl⟩ := trodVars_none hV
  have k0 := h0
  obtain ⟨A0, l0, c0, rfl⟩ := okWide_slice Tryd.underlying40 (hval 0 40 v0 rfl rfl)
  obtain ⟨f0, hf0⟩ := h0
  obtain ⟨B0, xs0, e0, eq0, r0, wf0⟩ := ints_ar Tryd.underlying40 Tryd.underlying3 cells3 hf0
  injection eq0 with q0 q1 q2
  subst q0 q1 q2
  have k1 := h1
  obtain ⟨A1, l1, c1, rfl⟩ := okWide_slice Tryd.underlying39 (hval 1 39 v1 rfl rfl)
  obtain ⟨f1, hf1⟩ := h1
  obtain ⟨B1, xs1, e1, eq1, r1, wf1⟩ := ints_ar Tryd.underlying39 Tryd.underlying5 cells5 hf1
  injection eq1 with q0 q1 q2
  subst q0 q1 q2
  have k2 := h2
  obtain ⟨A2, l2, c2, rfl⟩ := okWide_slice Tryd.underlying40 (hval 2 40 v2 rfl rfl)
  obtain ⟨f2, hf2⟩ := h2
  obtain ⟨B2, xs2, e2, eq2, r2, wf2⟩ := ints_ar Tryd.underlying40 Tryd.underlying3 cells3 hf2
  injection eq2 with q0 q1 q2
  subst q0 q1 q2
  obtain ⟨b3, rfl, rfl, rfl⟩ := open_bool Tryd.underlying4 (hval 3 4 v3 rfl rfl) h3
  clear hA0 hval0
  simp only [List.append_nil] at hW'
  refine (flat_w W (lai_of hL) r0 r1 (by_of wf1) r2 b3).mono fun e W' ⟨he, hw⟩ => ?_
  subst he
  refine ⟨_, rfl, _, _, _, [], (p0 ++ (p1 ++ (p2 ++ []))), [], hW', ?_, ?_, ?_, hw.below.frame _, fun h => by cases h⟩
  · exact trodAll_mk1 (shut_bool Tryd.underlying4 true)
  · exact trodAll_mk4 (Below.trod ev_laid (by kernel_rfl) (of_decide_eq_true (by kernel_rfl)) k0 hw.below (fun x hx => by simpa using hW'.lt x (List.mem_append.2 (.inl (List.mem_append.2 (.inl hx)))))) (Below.trod ev_laid (by kernel_rfl) (of_decide_eq_true (by kernel_rfl)) k1 hw.below (fun x hx => by simpa using hW'.lt x (List.mem_append.2 (.inl (List.mem_append.2 (.inr hx)))))) (Below.trod ev_laid (by kernel_rfl) (of_decide_eq_true (by kernel_rfl)) k2 hw.below (fun x hx => by simpa using hW'.lt x (List.mem_append.2 (.inr hx)))) (shut_bool Tryd.underlying4 b3)
  · rfl

theorem modelFlat_holds : Rows.ModelFlatSaid :=
  OpenClaim.holds_of_wide 7 Tryd.f7 rfl rfl rfl rfl rfl rfl rfl ⟨rfl, rfl, rfl, rfl, rfl⟩ rfl rfl rfl rfl rfl (by kernel_rfl) Tryd.func7 (by kernel_rfl)
    (of_decide_eq_true (by kernel_rfl)) (by unfold Func.isWrapper; rw [if_neg (of_decide_eq_false (by kernel_rfl))]; exact ⟨rfl, rfl⟩)
    (fun os started H enc _ => modelFlat_lifted os started H enc)

theorem modelFlat_card : Rows.ModelFlatCardSaid :=
  Claim7.holds_tied_plain_at .later [] [.data] true (true, "dfa3082858ab0b5427b88d24e842a120c5c853f715f1f82cc415b54375585b6e") false
    modelFlat_holds (fun _ h => by cases h) (by kernel_rfl) (fun _ h => by cases h) modelFlat_row_tie rfl ⟨rfl, rfl⟩ (by kernel_rfl) rfl
    (fun f fn hf hfn => by
      obtain rfl : f = 7 := Option.some.inj ((show Tryd.prog.funcNamed Rows.modelFlatRow.func = some 7 by kernel_rfl).symm.trans hf) |>.symm
      obtain rfl : fn = Tryd.f7 := (Option.some.inj (Tryd.func7.symm.trans hfn)).symm
      exact ⟨by kernel_rfl, fun j t ht => by
        rw [Tryd.params7] at ht
        have hm : t ∈ [25, 40, 39, 4, 3] := by
          have := Array.mem_of_getElem? ht
          simp at this
          first | (rcases this with rfl | rfl | rfl | rfl <;> simp) | (rcases this with rfl | rfl | rfl <;> simp)
        have hall : ([25, 40, 39, 4, 3].all fun u => !Tryd.prog.wantsStandIn u) = true := by kernel_rfl
        exact (show Tryd.prog.wantsStandIn t = false by simpa using List.all_eq_true.1 hall t hm)⟩)
    (by kernel_rfl)
#print axioms modelFlat_card
end Go.Proofs.YtmfdlcicbiincaaDoor
