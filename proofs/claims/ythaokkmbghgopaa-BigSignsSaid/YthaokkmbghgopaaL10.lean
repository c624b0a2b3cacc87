/- Of any two BigInts, as limbs: turned over twice a number is itself, with itself turned over it adds up to nought, a product, a quotient turn their sign with one factor, a rest with both, and the errors are the same; and the arguments read afterwards as before. No condition. -/
import Derived.Test.YthaokkmbghgopaaL10w
import Derived.Test.YthaokkmbghgopaaFR
import Derived.ProofKit
import Derived.OpenShut
import Derived.ChangeSlices
import Derived.Carry
import Derived.LaidMore
import Derived.Lay
import Derived.Lib.SmallJoins
namespace Go.Proofs.Ythaokkmbghgopaa
open Go.ChangeShapes Go.WideShapes Go.ChangeAt Go.RowKit Go.Joins
open Go.WideMaps Go.WideElems
open Go.ChangeMaps (open_string shut_string)

set_option maxRecDepth 100000 in
theorem bigSigns_lifted (os : Os) (started : os.Started) (H : Type) (enc : TypeId × Value → H) :
    ReturnsInHanded {} Try.checked os 10 .any (Rows.bigSignsSpec.pre6 enc Try.prog Try.f10 Rows.bigSignsRow.domain false) (Rows.bigSignsSpec.post enc Try.prog Try.f10 false true false false) := by
  refine returnsInHanded_of_change (C := Try.checked) bigs_own started (by kernel_rfl) Try.func10
    (ChangeSpec.witness6 (enc := enc) (C := Try.checked) false ⟨#[], #[.agg #[.bool false, .slice none 0 0], .agg #[.bool false, .slice none 0 0]], []⟩ 8 (by kernel_rfl) (by kernel_rfl) (by kernel_rfl) (by kernel_rfl)) ?_
  intro W base args ds gs before hval0 hW _ _
  have hval : ∀ (j : Nat) t v, Try.f10.params[j]? = some t → args[j]? = some v → Value.okWide Try.prog W .any base t v := hval0
  have hW' := hW
  obtain ⟨p, q, hA0, hV, rfl, _, _⟩ := hW
  have hA : DataW.TrodAll enc Try.prog W 0 (fun _ => true) true Try.f10.params.toList args.toList ds p := hA0
  rw [Try.params10] at hA hval
  obtain ⟨v0, v1, d0, d1, p0, p1, rfl, rfl, rfl, h0, h1⟩ := trodAll_two hA
  obtain ⟨rfl, rfl⟩ := trodVars_none hV
  have k0 := h0
  obtain ⟨ba0, bb0, by0, bz0, bf0, rfl, rfl, rfl, bh0, bi0⟩ := open_agg2 Try.underlying24 (by kernel_rfl) cells24 (hval 0 24 v0 rfl rfl) h0
  obtain ⟨n0, be0, _⟩ := DataW.trod_bool Try.underlying4 bh0
  injection be0 with be0 _
  subst be0
  obtain ⟨A0, l0, c0, xs0, rfl, r0⟩ := raw_of bi0
  have k1 := h1
  obtain ⟨ba1, bb1, by1, bz1, bf1, rfl, rfl, rfl, bh1, bi1⟩ := open_agg2 Try.underlying24 (by kernel_rfl) cells24 (hval 1 24 v1 rfl rfl) h1
  obtain ⟨n1, be1, _⟩ := DataW.trod_bool Try.underlying4 bh1
  injection be1 with be1 _
  subst be1
  obtain ⟨A1, l1, c1, xs1, rfl, r1⟩ := raw_of bi1
  clear hA0 hval0
  simp only [List.append_nil] at hW'
  refine (signs_w _ _ _ _ _ _ _ _ _ _ W r0 r1).mono fun e W' ⟨he, hw⟩ => ?_
  subst he
  refine ⟨_, rfl, _, _, _, [], ((by0.2 ++ bz0.2) ++ (by1.2 ++ bz1.2)), [], hW', ?_, ?_, ?_, hw.below.frame _, fun h => by cases h⟩
  · exact trodAll_mk1 (shut_bool Try.underlying4 true)
  · exact trodAll_mk2 (Below.trod bigs_laid (by kernel_rfl) (of_decide_eq_true (by kernel_rfl)) k0 hw.below (fun x hx => by simpa using hW'.lt x (List.mem_append.2 (.inl hx)))) (Below.trod bigs_laid (by kernel_rfl) (of_decide_eq_true (by kernel_rfl)) k1 hw.below (fun x hx => by simpa using hW'.lt x (List.mem_append.2 (.inr hx))))
  · rfl

theorem bigSigns_holds : Rows.BigSignsSaid :=
  OpenClaim.holds_of_wide 10 Try.f10 rfl rfl rfl rfl rfl rfl rfl ⟨rfl, rfl, rfl, rfl, rfl⟩ rfl rfl rfl rfl rfl (by kernel_rfl) Try.func10 (by kernel_rfl)
    (of_decide_eq_true (by kernel_rfl)) (by unfold Func.isWrapper; rw [if_neg (of_decide_eq_false (by kernel_rfl))]; exact ⟨rfl, rfl⟩)
    (fun os started H enc _ => bigSigns_lifted os started H enc)
#print axioms bigSigns_holds
end Go.Proofs.Ythaokkmbghgopaa
