/- Of any log: reads-from and synchronizes-with, pair for pair, are what the log itself says; condition: the listed variable holds what the program lays (the card ties it). -/
import Derived.Test.YtmfdlcicbiincaaDoorL7v
import Derived.Test.YtmfdlcicbiincaaDoorFM
import Derived.Test.YtmfdlcicbiincaaDoorTie
import Derived.Test.YtmfdlcicbiincaaDoorCards
import Derived.ProofKit
import Derived.OpenShut
import Derived.LaidMore
import Derived.Lay
import Derived.SevenTiedAt
import Derived.Stop.Joined
import Derived.Lib.SmallJoins
import Derived.ChangeSlices
import Derived.Carry
namespace Go.Proofs.YtmfdlcicbiincaaDoor
open Go.ChangeShapes Go.WideShapes Go.ChangeAt Go.RowKit Go.Joins
open Go.WideMaps Go.WideElems

set_option maxRecDepth 100000 in
theorem relParts_lifted (os : Os) (started : os.Started) (H : Type) (enc : TypeId × Value → H) :
    ReturnsInHanded {} Tryd.checked os 4 .any (fun w args => (Rows.relPartsSpec.pre enc Tryd.prog Tryd.f4 Rows.relPartsRow.domain false w args ∧ laidMetH Tryd.prog Rows.relPartsRow.laid w) ∧ sizedMet enc Tryd.prog Tryd.f4 (OpenSpec.ofChange Rows.relPartsSpec) false w args)
      (Rows.relPartsSpec.post enc Tryd.prog Tryd.f4 false true false false) := by
  refine returnsInHanded_of_change_and (C := Tryd.checked) (X := fun w _ => laidMetH Tryd.prog Rows.relPartsRow.laid w) (fun _ _ _ hh h => h.of_heap hh) ev_own started (by kernel_rfl) Tryd.func4
    (ChangeSpec.witness_shaped (enc := enc) (C := Tryd.checked) (os := os) (X := fun w _ => laidMetH Tryd.prog Rows.relPartsRow.laid w) false (World.laidAll Tryd.prog os Rows.relPartsRow.laid) #[.agg #[.slice none 0 0, .slice none 0 0]] 8 (World.laidAll_os _ _ _)
      (World.shaped_of_ZipB (by kernel_rfl) (by kernel_rfl)) (by kernel_rfl) (by kernel_rfl) (by kernel_rfl)
      (by rw [MakeChecks.laidMetH_plain _ _ _ (by kernel_rfl)]; exact laidMet_laidAll _ (by kernel_rfl) (by kernel_rfl))) ?_
  intro W base args ds gs before hval0 hW hc _ hL _
  have hval : ∀ (j : Nat) t v, Tryd.f4.params[j]? = some t → args[j]? = some v → Value.okWide Tryd.prog W .any base t v := hval0
  have hW' := hW
  obtain ⟨p, q, hA0, hV, rfl, _, _⟩ := hW
  have hA : DataW.TrodAll enc Tryd.prog W 0 (fun _ => true) true Tryd.f4.params.toList args.toList ds p := hA0
  rw [Tryd.params4] at hA hval
  obtain ⟨v0, d0, rfl, rfl, h0⟩ := trodAll_one hA
  obtain ⟨rfl, rfl⟩ := trodVars_none hV
  have k0 := h0
  obtain ⟨l0, ps0, A0, n0', c0, B0, m0, k0', rfl, H0⟩ := log_open (hval 0 25 v0 rfl rfl) h0
  clear hA0 hval0
  simp only [List.append_nil] at hW'
  refine (parts_w W (lai_of hL) H0).mono fun e W' ⟨he, hw⟩ => ?_
  subst he
  refine ⟨_, rfl, _, _, _, [], p, [], hW', ?_, ?_, ?_, hw.below.frame _, fun h => by cases h⟩
  · exact trodAll_mk1 (shut_bool Tryd.underlying4 true)
  · exact trodAll_mk1 (Below.trod ev_laid (by kernel_rfl) (of_decide_eq_true (by kernel_rfl)) k0 hw.below (fun x hx => by simpa using hW'.lt x hx))
  · rfl

theorem relParts_holds : Rows.RelPartsSaid :=
  OpenClaim.holds_of_wide 4 Tryd.f4 rfl rfl rfl rfl rfl rfl rfl ⟨rfl, rfl, rfl, rfl, rfl⟩ rfl rfl rfl rfl rfl (by kernel_rfl) Tryd.func4 (by kernel_rfl)
    (of_decide_eq_true (by kernel_rfl)) (by unfold Func.isWrapper; rw [if_neg (of_decide_eq_false (by kernel_rfl))]; exact ⟨rfl, rfl⟩)
    (fun os started H enc _ => relParts_lifted os started H enc)

theorem relParts_card : Rows.RelPartsCardSaid :=
  Claim7.holds_tied_plain_at .later [] [.data] true (true, "dfa3082858ab0b5427b88d24e842a120c5c853f715f1f82cc415b54375585b6e") false
    relParts_holds (fun _ h => by cases h) (by kernel_rfl) (fun _ h => by cases h) relParts_row_tie rfl ⟨rfl, rfl⟩ (by kernel_rfl) rfl
    (fun f fn hf hfn => by
      obtain rfl : f = 4 := Option.some.inj ((show Tryd.prog.funcNamed Rows.relPartsRow.func = some 4 by kernel_rfl).symm.trans hf) |>.symm
      obtain rfl : fn = Tryd.f4 := (Option.some.inj (Tryd.func4.symm.trans hfn)).symm
      exact ⟨by kernel_rfl, fun j t ht => by
        rw [Tryd.params4] at ht
        have hm : t ∈ [25, 40, 39, 4, 3] := by
          have := Array.mem_of_getElem? ht
          simp at this
          simp [this]
        have hall : ([25, 40, 39, 4, 3].all fun u => !Tryd.prog.wantsStandIn u) = true := by kernel_rfl
        exact (show Tryd.prog.wantsStandIn t = false by simpa using List.all_eq_true.1 hall t hm)⟩)
    (by kernel_rfl)
#print axioms relParts_card
end Go.Proofs.YtmfdlcicbiincaaDoor
