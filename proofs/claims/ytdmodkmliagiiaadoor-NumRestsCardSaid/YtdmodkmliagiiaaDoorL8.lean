/- Of any three numbers: a quotient that stays in the set, times what it was divided by, is what was divided, what is left is lesser by size, of three that are ordered the outer ones are, and the arguments read afterwards as before; conditions: the five listed variables of the library of Go hold what the text of the program lays (the card ties them). -/
import Derived.Test.YtdmodkmliagiiaaDoorL8w
import Derived.Test.YtdmodkmliagiiaaDoorTie
import Derived.Test.YtdmodkmliagiiaaDoorCards
import Derived.ProofKit
import Derived.OpenShut
import Derived.LaidMore
import Derived.Lay
import Derived.SevenTiedAt
import Derived.Stop.Joined
import Derived.Lib.SmallJoins
namespace Go.Proofs.YtdmodkmliagiiaaDoor
open Go.ChangeShapes Go.WideShapes Go.ChangeAt Go.RowKit Go.Joins
open Go.WideMaps Go.WideElems
open Go.ChangeMaps (open_string shut_string)

theorem numRests_own : ownKnob Tryd.prog.godebug = none := by kernel_rfl
theorem cells23 : Tryd.prog.cellsOf 23 = 2 := by kernel_rfl
theorem bd_i64 {z : Int} (h : (Lit.int IntKind.i64 z).wf = true) : -9223372036854775808 ≤ z ∧ z ≤ 9223372036854775807 := by
  simpa [Lit.wf, IntKind.min, IntKind.max, IntKind.bits, IntKind.signed] using h

set_option maxRecDepth 100000 in
theorem numRests_lifted (os : Os) (started : os.Started) (H : Type) (enc : TypeId × Value → H) :
    ReturnsInHanded {} Tryd.checked os 8 .any (fun w args => (Rows.numRestsSpec.pre enc Tryd.prog Tryd.f8 Rows.numRestsRow.domain false w args ∧ laidMetH Tryd.prog Rows.numRestsRow.laid w) ∧ sizedMet enc Tryd.prog Tryd.f8 (OpenSpec.ofChange Rows.numRestsSpec) false w args)
      (Rows.numRestsSpec.post enc Tryd.prog Tryd.f8 false true false false) := by
  refine returnsInHanded_of_change_and (C := Tryd.checked) (X := fun w _ => laidMetH Tryd.prog Rows.numRestsRow.laid w) (fun _ _ _ hh h => h.of_heap hh) numRests_own started (by kernel_rfl) Tryd.func8
    (ChangeSpec.witness_shaped (enc := enc) (C := Tryd.checked) (os := os) (X := fun w _ => laidMetH Tryd.prog Rows.numRestsRow.laid w) false (World.laidAll Tryd.prog os Rows.numRestsRow.laid) #[.agg #[.int .i64 0, .int .i64 0], .agg #[.int .i64 0, .int .i64 0], .agg #[.int .i64 0, .int .i64 0]] 8 (World.laidAll_os _ _ _)
      (World.shaped_of_ZipB (by kernel_rfl) (by kernel_rfl)) (by kernel_rfl) (by kernel_rfl) (by kernel_rfl)
      (by rw [MakeChecks.laidMetH_plain _ _ _ (by kernel_rfl)]; exact laidMet_laidAll _ (by kernel_rfl) (by kernel_rfl))) ?_
  intro W base args ds gs before hval0 hW hc _ hL _
  have hval : ∀ (j : Nat) t v, Tryd.f8.params[j]? = some t → args[j]? = some v → Value.okWide Tryd.prog W .any base t v := hval0
  have hW' := hW
  obtain ⟨p, q, hA0, hV, rfl, _, _⟩ := hW
  have hA : DataW.TrodAll enc Tryd.prog W 0 (fun _ => true) true Tryd.f8.params.toList args.toList ds p := hA0
  rw [Tryd.params8] at hA hval
  obtain ⟨v0, v1, v2, d0, d1, d2, p0, p1, p2, rfl, rfl, rfl, h0, h1, h2⟩ := trodAll_three hA
  obtain ⟨rfl, rfl⟩ := trodVars_none hV
  obtain ⟨ac0, ac1, ay0, ay1, am, rfl, rfl, rfl, ah0, ah1⟩ := open_agg2 Tryd.underlying23 (by kernel_rfl) cells23 (hval 0 23 v0 rfl rfl) h0
  obtain ⟨ak, ae0, rfl, aw0⟩ := DataW.trod_int Tryd.underlying3 ah0
  obtain ⟨an, ae1, rfl, aw1⟩ := DataW.trod_int Tryd.underlying3 ah1
  simp at ae0 ae1
  subst ae0 ae1
  obtain ⟨bc0, bc1, by0, by1, bm, rfl, rfl, rfl, bh0, bh1⟩ := open_agg2 Tryd.underlying23 (by kernel_rfl) cells23 (hval 1 23 v1 rfl rfl) h1
  obtain ⟨bk, be0, rfl, bw0⟩ := DataW.trod_int Tryd.underlying3 bh0
  obtain ⟨bn, be1, rfl, bw1⟩ := DataW.trod_int Tryd.underlying3 bh1
  simp at be0 be1
  subst be0 be1
  obtain ⟨cc0, cc1, cy0, cy1, cm, rfl, rfl, rfl, ch0, ch1⟩ := open_agg2 Tryd.underlying23 (by kernel_rfl) cells23 (hval 2 23 v2 rfl rfl) h2
  obtain ⟨ck, ce0, rfl, cw0⟩ := DataW.trod_int Tryd.underlying3 ch0
  obtain ⟨cn, ce1, rfl, cw1⟩ := DataW.trod_int Tryd.underlying3 ch1
  simp at ce0 ce1
  subst ce0 ce1
  clear hA0 hval0
  simp only [List.append_nil] at hW'
  refine (rests_w ak an bk bn ck cn W).mono fun e W' ⟨he, hw⟩ => ?_
  subst he
  refine ⟨_, rfl, _, _, _, [], [], [], hW', ?_, ?_, ?_, hw.below.frame _, fun h => by cases h⟩
  · exact trodAll_mk1 (shut_bool Tryd.underlying4 true)
  · exact trodAll_mk3 (shut_agg2 (y0 := (.lit (.int .i64 ak), [])) (y1 := (.lit (.int .i64 an), [])) Tryd.underlying23 (by kernel_rfl) cells23 ⟨1, by simp [DataW.trod, Tryd.underlying3, aw0]⟩ ⟨1, by simp [DataW.trod, Tryd.underlying3, aw1]⟩) (shut_agg2 (y0 := (.lit (.int .i64 bk), [])) (y1 := (.lit (.int .i64 bn), [])) Tryd.underlying23 (by kernel_rfl) cells23 ⟨1, by simp [DataW.trod, Tryd.underlying3, bw0]⟩ ⟨1, by simp [DataW.trod, Tryd.underlying3, bw1]⟩) (shut_agg2 (y0 := (.lit (.int .i64 ck), [])) (y1 := (.lit (.int .i64 cn), [])) Tryd.underlying23 (by kernel_rfl) cells23 ⟨1, by simp [DataW.trod, Tryd.underlying3, cw0]⟩ ⟨1, by simp [DataW.trod, Tryd.underlying3, cw1]⟩)
  · rfl

theorem numRests_holds : Rows.NumRestsSaid :=
  OpenClaim.holds_of_wide 8 Tryd.f8 rfl rfl rfl rfl rfl rfl rfl ⟨rfl, rfl, rfl, rfl, rfl⟩ rfl rfl rfl rfl rfl (by kernel_rfl) Tryd.func8 (by kernel_rfl)
    (of_decide_eq_true (by kernel_rfl)) (by unfold Func.isWrapper; rw [if_neg (of_decide_eq_false (by kernel_rfl))]; exact ⟨rfl, rfl⟩)
    (fun os started H enc _ => numRests_lifted os started H enc)

theorem numRests_card : Rows.NumRestsCardSaid :=
  Claim7.holds_tied_plain_at .later [] [.data, .data, .data, .sentinel, .sentinel] true (true, "d720e5fb5d3999502f18b042593f1b8eda3c16fa5bc98447f20e85f77e930d72") true
    numRests_holds (fun _ h => by cases h) (by kernel_rfl) (fun _ h => by cases h) numRests_row_tie rfl ⟨rfl, rfl⟩ (by kernel_rfl) rfl
    (fun f fn hf hfn => by
      obtain rfl : f = 8 := Option.some.inj ((show Tryd.prog.funcNamed Rows.numRestsRow.func = some 8 by kernel_rfl).symm.trans hf) |>.symm
      obtain rfl : fn = Tryd.f8 := (Option.some.inj (Tryd.func8.symm.trans hfn)).symm
      exact ⟨by kernel_rfl, fun j t ht => by
        rw [Tryd.params8] at ht
        have hm : t ∈ [23, 3, 9] := by
          have := Array.mem_of_getElem? ht
          simp at this
          simp [this]
        have hall : ([23, 3, 9].all fun u => !Tryd.prog.wantsStandIn u) = true := by kernel_rfl
        exact (show Tryd.prog.wantsStandIn t = false by simpa using List.all_eq_true.1 hall t hm)⟩)
    (by kernel_rfl)
#print axioms numRests_card
end Go.Proofs.YtdmodkmliagiiaaDoor
