/- Of any truth, number and list of units: the values made of them are the document's own, the truth's value is as true as it, and the text's value may be; the arguments read afterwards as before; conditions: the seven listed variables of Go's library hold what the program's text lays (the card ties them). -/
import Derived.Test.YtmlfcmmgoiigkaaGreatDoorL5w
import Derived.Test.YtmlfcmmgoiigkaaGreatDoorV16
import Derived.Test.YtmlfcmmgoiigkaaGreatDoorTie
import Derived.Test.YtmlfcmmgoiigkaaGreatDoorCards
import Derived.ProofKit
import Derived.OpenShut
import Derived.LaidMore
import Derived.Lay
import Derived.SevenTiedAt
import Derived.Stop.Joined
import Derived.Lib.SmallJoins
namespace Go.Proofs.YtmlfcmmgoiigkaaGreatDoor
open Go.ChangeShapes Go.WideShapes Go.ChangeAt Go.RowKit Go.Joins
open Go.WideMaps Go.WideElems
open Go.ChangeMaps (open_string shut_string)

set_option maxRecDepth 100000 in
theorem convMakes_lifted (os : Os) (started : os.Started) (H : Type) (enc : TypeId × Value → H) :
    ReturnsInHanded {} Tryz.checked os 5 .any (fun w args => (Rows.convMakesSpec.pre enc Tryz.prog Tryz.f5 Rows.convMakesRow.domain false w args ∧ laidMetH Tryz.prog Rows.convMakesRow.laid w) ∧ sizedMet enc Tryz.prog Tryz.f5 (OpenSpec.ofChange Rows.convMakesSpec) false w args)
      (Rows.convMakesSpec.post enc Tryz.prog Tryz.f5 false true false false) := by
  refine returnsInHanded_of_change_and (C := Tryz.checked) (X := fun w _ => laidMetH Tryz.prog Rows.convMakesRow.laid w) (fun _ _ _ hh h => h.of_heap hh) text_own started (by kernel_rfl) Tryz.func5
    (ChangeSpec.witness_shaped (enc := enc) (C := Tryz.checked) (os := os) (X := fun w _ => laidMetH Tryz.prog Rows.convMakesRow.laid w) false (World.laidAll Tryz.prog os Rows.convMakesRow.laid) #[.bool false, .agg #[.int .i64 0, .int .i64 0], .slice none 0 0] 8 (World.laidAll_os _ _ _)
      (World.shaped_of_ZipB (by kernel_rfl) (by kernel_rfl)) (by kernel_rfl) (by kernel_rfl) (by kernel_rfl)
      (by rw [MakeChecks.laidMetH_plain _ _ _ (by kernel_rfl)]; exact laidMet_laidAll _ (by kernel_rfl) (by kernel_rfl))) ?_
  intro W base args ds gs before hval0 hW hc _ hL _
  have hval : ∀ (j : Nat) t v, Tryz.f5.params[j]? = some t → args[j]? = some v → Value.okWide Tryz.prog W .any base t v := hval0
  have hW' := hW
  obtain ⟨p, q, hA0, hV, rfl, _, _⟩ := hW
  have hA : DataW.TrodAll enc Tryz.prog W 0 (fun _ => true) true Tryz.f5.params.toList args.toList ds p := hA0
  rw [Tryz.params5] at hA hval
  obtain ⟨v0, v1, v2, d0, d1, d2, p0, p1, p2, rfl, rfl, rfl, h0, h1, h2⟩ := trodAll_three hA
  obtain ⟨rfl, rfl⟩ := trodVars_none hV
  obtain ⟨b0, rfl, rfl, rfl⟩ := open_bool Tryz.underlying4 (hval 0 4 v0 rfl rfl) h0
  have k1 := h1
  obtain ⟨ba1, bb1, by1, bz1, bf1, rfl, rfl, rfl, bh1, bi1⟩ := open_agg2 Tryz.underlying23 (by kernel_rfl) cells23 (hval 1 23 v1 rfl rfl) h1
  obtain ⟨kx1, e0, e0b, _⟩ := DataW.trod_int Tryz.underlying3 bh1
  obtain ⟨nx1, e1, e1b, _⟩ := DataW.trod_int Tryz.underlying3 bi1
  simp at e0 e1
  subst e0 e1 e0b e1b
  have k2 := h2
  obtain ⟨A2, l2, c2, rfl⟩ := okWide_slice Tryz.underlying27 (hval 2 27 v2 rfl rfl)
  obtain ⟨f2, hf2⟩ := h2
  obtain ⟨B2, m2, e2, xs2, eq2, H2⟩ := units_ar hf2
  injection eq2 with q0 q1 q2
  subst q0 q1 q2
  clear hA0 hval0
  simp only [List.append_nil] at hW'
  refine (makes_w W (lai_of hL) H2).mono fun e W' ⟨he, hw⟩ => ?_
  subst he
  refine ⟨_, rfl, _, _, _, [], ([] ++ ([] ++ p2)), [], hW', ?_, ?_, ?_, hw.below.frame _, fun h => by cases h⟩
  · exact trodAll_mk1 (shut_bool Tryz.underlying4 true)
  · exact trodAll_mk3 (shut_bool Tryz.underlying4 b0) (Below.trod text_laid (by kernel_rfl) (of_decide_eq_true (by kernel_rfl)) k1 hw.below (fun x hx => by simp at hx)) (Below.trod text_laid (by kernel_rfl) (of_decide_eq_true (by kernel_rfl)) k2 hw.below (fun x hx => by simpa using hW'.lt x hx))
  · rfl

theorem convMakes_holds : Rows.ConvMakesSaid :=
  OpenClaim.holds_of_wide 5 Tryz.f5 rfl rfl rfl rfl rfl rfl rfl ⟨rfl, rfl, rfl, rfl, rfl⟩ rfl rfl rfl rfl rfl (by kernel_rfl) Tryz.func5 (by kernel_rfl)
    (of_decide_eq_true (by kernel_rfl)) (by unfold Func.isWrapper; rw [if_neg (of_decide_eq_false (by kernel_rfl))]; exact ⟨rfl, rfl⟩)
    (fun os started H enc _ => convMakes_lifted os started H enc)

theorem convMakes_card : Rows.ConvMakesCardSaid :=
  Claim7.holds_tied_plain_at .later [] [.data, .data, .data, .data, .sentinel, .sentinel, .pinned] true (true, "d772355ee63d39e765f335ebdd2c481e994e67078f6e0851efc60f676bc8b0c3") true
    convMakes_holds (fun _ h => by cases h) (by kernel_rfl) (fun _ h => by cases h) convMakes_row_tie rfl ⟨rfl, rfl⟩ (by kernel_rfl) rfl
    (fun f fn hf hfn => by
      obtain rfl : f = 5 := Option.some.inj ((show Tryz.prog.funcNamed Rows.convMakesRow.func = some 5 by kernel_rfl).symm.trans hf) |>.symm
      obtain rfl : fn = Tryz.f5 := (Option.some.inj (Tryz.func5.symm.trans hfn)).symm
      exact ⟨by kernel_rfl, fun j t ht => by
        rw [Tryz.params5] at ht
        have hm : t ∈ [3, 4, 23, 27, 29] := by
          have := Array.mem_of_getElem? ht
          simp at this
          rcases this with rfl | rfl | rfl <;> simp
        have hall : ([3, 4, 23, 27, 29].all fun u => !Tryz.prog.wantsStandIn u) = true := by kernel_rfl
        exact (show Tryz.prog.wantsStandIn t = false by simpa using List.all_eq_true.1 hall t hm)⟩)
    (by kernel_rfl)
#print axioms convMakes_card
end Go.Proofs.YtmlfcmmgoiigkaaGreatDoor
