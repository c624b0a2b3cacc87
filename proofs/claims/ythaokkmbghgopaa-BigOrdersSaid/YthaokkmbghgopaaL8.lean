/- Of any three BigInts, as limbs: of three that are ordered the outer ones are; a number added keeps the order where both sums are told; turned over it is turned round; and the arguments read afterwards as before. No condition. -/
import Derived.Test.YthaokkmbghgopaaL8y
import Derived.Test.YthaokkmbghgopaaFR
import Derived.ProofKit
import Derived.OpenShut
import Derived.ChangeSlices
import Derived.Carry
import Derived.LaidMore
import Derived.Lay
import Derived.Lib.SmallJoins
namespace Go.Proofs.Ythaokkmbghgopaa
open Go.ChangeShapes Go.WideShapes Go.ChangeAt Go.RowKit Go.Joins
open Go.WideMaps Go.WideElems
open Go.ChangeMaps (open_string shut_string)

set_option maxRecDepth 100000 in
theorem bigOrders_lifted (os : Os) (started : os.Started) (H : Type) (enc : TypeId × Value → H) :
    ReturnsInHanded {} Try.checked os 8 .any (Rows.bigOrdersSpec.pre6 enc Try.prog Try.f8 Rows.bigOrdersRow.domain false) (Rows.bigOrdersSpec.post enc Try.prog Try.f8 false true false false) := by
  refine returnsInHanded_of_change (C := Try.checked) bigs_own started (by kernel_rfl) Try.func8
    (ChangeSpec.witness6 (enc := enc) (C := Try.checked) false ⟨#[], #[.agg #[.bool false, .slice none 0 0], .agg #[.bool false, .slice none 0 0], .agg #[.bool false, .slice none 0 0]], []⟩ 8 (by kernel_rfl) (by kernel_rfl) (by kernel_rfl) (by kernel_rfl)) ?_
  intro W base args ds gs before hval0 hW _ _
  have hval : ∀ (j : Nat) t v, Try.f8.params[j]? = some t → args[j]? = some v → Value.okWide Try.prog W .any base t v := hval0
  have hW' := hW
  obtain ⟨p, q, hA0, hV, rfl, _, _⟩ := hW
  have hA : DataW.TrodAll enc Try.prog W 0 (fun _ => true) true Try.f8.params.toList args.toList ds p := hA0
  rw [Try.params8] at hA hval
  obtain ⟨v0, v1, v2, d0, d1, d2, p0, p1, p2, rfl, rfl, rfl, h0, h1, h2⟩ := trodAll_three hA
  obtain ⟨rfl, rfl⟩ := trodVars_none hV
  have k0 := h0
  obtain ⟨ba0, bb0, by0, bz0, bf0, rfl, rfl, rfl, bh0, bi0⟩ := open_agg2 Try.underlying24 (by kernel_rfl) cells24 (hval 0 24 v0 rfl rfl) h0
  obtain ⟨n0, be0, _⟩ := DataW.trod_bool Try.underlying4 bh0
  injection be0 with be0 _
  subst be0
  obtain ⟨A0, l0, c0, xs0, rfl, r0⟩ := raw_of bi0
  have k1 := h1
  obtain ⟨ba1, bb1, by1, bz1, bf1, rfl, rfl, rfl, bh1, bi1⟩ := open_agg2 Try.underlying24 (by kernel_rfl) cells24 (hval 1 24 v1 rfl rfl) h1
  obtain ⟨n1, be1, _⟩ := DataW.trod_bool Try.underlying4 bh1
  injection be1 with be1 _
  subst be1
  obtain ⟨A1, l1, c1, xs1, rfl, r1⟩ := raw_of bi1
  have k2 := h2
  obtain ⟨ba2, bb2, by2, bz2, bf2, rfl, rfl, rfl, bh2, bi2⟩ := open_agg2 Try.underlying24 (by kernel_rfl) cells24 (hval 2 24 v2 rfl rfl) h2
  obtain ⟨n2, be2, _⟩ := DataW.trod_bool Try.underlying4 bh2
  injection be2 with be2 _
  subst be2
  obtain ⟨A2, l2, c2, xs2, rfl, r2⟩ := raw_of bi2
  clear hA0 hval0
  simp only [List.append_nil] at hW'
  refine (orders_w _ _ _ _ _ _ _ _ _ _ _ _ _ _ _ W r0 r1 r2).mono fun e W' ⟨he, hw⟩ => ?_
  subst he
  refine ⟨_, rfl, _, _, _, [], ((by0.2 ++ bz0.2) ++ ((by1.2 ++ bz1.2) ++ (by2.2 ++ bz2.2))), [], hW', ?_, ?_, ?_, hw.below.frame _, fun h => by cases h⟩
  · exact trodAll_mk1 (shut_bool Try.underlying4 true)
  · exact trodAll_mk3 (Below.trod bigs_laid (by kernel_rfl) (of_decide_eq_true (by kernel_rfl)) k0 hw.below (fun x hx => by simpa using hW'.lt x (List.mem_append.2 (.inl (List.mem_append.2 (.inl hx)))))) (Below.trod bigs_laid (by kernel_rfl) (of_decide_eq_true (by kernel_rfl)) k1 hw.below (fun x hx => by simpa using hW'.lt x (List.mem_append.2 (.inl (List.mem_append.2 (.inr hx)))))) (Below.trod bigs_laid (by kernel_rfl) (of_decide_eq_true (by kernel_rfl)) k2 hw.below (fun x hx => by simpa using hW'.lt x (List.mem_append.2 (.inr hx))))
  · rfl

theorem bigOrders_holds : Rows.BigOrdersSaid :=
  OpenClaim.holds_of_wide 8 Try.f8 rfl rfl rfl rfl rfl rfl rfl ⟨rfl, rfl, rfl, rfl, rfl⟩ rfl rfl rfl rfl rfl (by kernel_rfl) Try.func8 (by kernel_rfl)
    (of_decide_eq_true (by kernel_rfl)) (by unfold Func.isWrapper; rw [if_neg (of_decide_eq_false (by kernel_rfl))]; exact ⟨rfl, rfl⟩)
    (fun os started H enc _ => bigOrders_lifted os started H enc)
#print axioms bigOrders_holds
end Go.Proofs.Ythaokkmbghgopaa
