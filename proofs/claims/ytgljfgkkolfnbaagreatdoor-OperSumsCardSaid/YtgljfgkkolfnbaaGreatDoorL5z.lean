/- Of two numbers that are whole, or two BigInts: less undoes a sum where both are told; a step up and one down is none; a sum is told or refused; the arguments read afterwards as before; conditions: the seven listed variables of Go's library hold what the program's text lays (the card ties them). -/
import Derived.Test.YtgljfgkkolfnbaaGreatDoorL5xz
import Derived.Test.YtgljfgkkolfnbaaGreatDoorV16z
import Derived.Test.YtgljfgkkolfnbaaGreatDoorTie
import Derived.Test.YtgljfgkkolfnbaaGreatDoorCards
import Derived.ProofKit
import Derived.OpenShut
import Derived.LaidMore
import Derived.Lay
import Derived.SevenTiedAt
import Derived.Stop.Joined
import Derived.Lib.SmallJoins
namespace Go.Proofs.YtgljfgkkolfnbaaGreatDoor
open Go.ChangeShapes Go.WideShapes Go.ChangeAt Go.RowKit Go.Joins
open Go.WideMaps Go.WideElems
open Go.ChangeMaps (open_string shut_string)

set_option maxRecDepth 100000 in
theorem operSums_lifted (os : Os) (started : os.Started) (H : Type) (enc : TypeId × Value → H) :
    ReturnsInHanded {} Tryz.checked os 5 .any (fun w args => (Rows.operSumsSpec.pre enc Tryz.prog Tryz.f5 Rows.operSumsRow.domain false w args ∧ laidMetH Tryz.prog Rows.operSumsRow.laid w) ∧ sizedMet enc Tryz.prog Tryz.f5 (OpenSpec.ofChange Rows.operSumsSpec) false w args)
      (Rows.operSumsSpec.post enc Tryz.prog Tryz.f5 false true false false) := by
  refine returnsInHanded_of_change_and (C := Tryz.checked) (X := fun w _ => laidMetH Tryz.prog Rows.operSumsRow.laid w) (fun _ _ _ hh h => h.of_heap hh) text_own started (by kernel_rfl) Tryz.func5
    (ChangeSpec.witness_shaped (enc := enc) (C := Tryz.checked) (os := os) (X := fun w _ => laidMetH Tryz.prog Rows.operSumsRow.laid w) false (World.laidAll Tryz.prog os Rows.operSumsRow.laid) #[.agg #[.int .i64 0, .int .i64 0, .int .i64 0, .bool false, .slice none 0 0, .slice none 0 0, .int .i64 0], .agg #[.int .i64 0, .int .i64 0, .int .i64 0, .bool false, .slice none 0 0, .slice none 0 0, .int .i64 0]] 8 (World.laidAll_os _ _ _)
      (World.shaped_of_ZipB (by kernel_rfl) (by kernel_rfl)) (by kernel_rfl) (by kernel_rfl) (by kernel_rfl)
      (by rw [MakeChecks.laidMetH_plain _ _ _ (by kernel_rfl)]; exact laidMet_laidAll _ (by kernel_rfl) (by kernel_rfl))) ?_
  intro W base args ds gs before hval0 hW hc _ hL _
  have hval : ∀ (j : Nat) t v, Tryz.f5.params[j]? = some t → args[j]? = some v → Value.okWide Tryz.prog W .any base t v := hval0
  have hW' := hW
  obtain ⟨p, q, hA0, hV, rfl, _, _⟩ := hW
  have hA : DataW.TrodAll enc Tryz.prog W 0 (fun _ => true) true Tryz.f5.params.toList args.toList ds p := hA0
  rw [Tryz.params5] at hA hval
  obtain ⟨v0, v1, d0, d1, p0, p1, rfl, rfl, rfl, h0, h1⟩ := trodAll_two hA
  obtain ⟨rfl, rfl⟩ := trodVars_none hV
  have k0 := h0
  obtain ⟨ka0, kb0, kc0, kd0, A0, C0, xs0, us0, n0, c0, m0, d0, r0, rfl, H0, _, _, _, _⟩ := val_open (hval 0 29 v0 rfl rfl) h0
  have k1 := h1
  obtain ⟨ka1, kb1, kc1, kd1, A1, C1, xs1, us1, n1, c1, m1, d1, r1, rfl, H1, _, _, _, _⟩ := val_open (hval 1 29 v1 rfl rfl) h1
  clear hA0 hval0
  simp only [List.append_nil] at hW'
  refine (opsums_w W (lai_of hL) H0 H1).mono fun e W' ⟨he, hw⟩ => ?_
  subst he
  refine ⟨_, rfl, _, _, _, [], (p0 ++ p1), [], hW', ?_, ?_, ?_, hw.below.frame _, fun h => by cases h⟩
  · exact trodAll_mk1 (shut_bool Tryz.underlying4 true)
  · exact trodAll_mk2 (Below.trod text_laid (by kernel_rfl) (of_decide_eq_true (by kernel_rfl)) k0 hw.below (fun x hx => by simpa using hW'.lt x (by simp [hx]))) (Below.trod text_laid (by kernel_rfl) (of_decide_eq_true (by kernel_rfl)) k1 hw.below (fun x hx => by simpa using hW'.lt x (by simp [hx])))
  · rfl

theorem operSums_holds : Rows.OperSumsSaid :=
  OpenClaim.holds_of_wide 5 Tryz.f5 rfl rfl rfl rfl rfl rfl rfl ⟨rfl, rfl, rfl, rfl, rfl⟩ rfl rfl rfl rfl rfl (by kernel_rfl) Tryz.func5 (by kernel_rfl)
    (of_decide_eq_true (by kernel_rfl)) (by unfold Func.isWrapper; rw [if_neg (of_decide_eq_false (by kernel_rfl))]; exact ⟨rfl, rfl⟩)
    (fun os started H enc _ => operSums_lifted os started H enc)

theorem operSums_card : Rows.OperSumsCardSaid :=
  Claim7.holds_tied_plain_at .later [] [.data, .data, .data, .data, .sentinel, .sentinel, .pinned] true (true, "a952db7d91b3118e317b61226735ff6f44c990928b5d4c48c3ce55233aca2dc5") true
    operSums_holds (fun _ h => by cases h) (by kernel_rfl) (fun _ h => by cases h) operSums_row_tie rfl ⟨rfl, rfl⟩ (by kernel_rfl) rfl
    (fun f fn hf hfn => by
      obtain rfl : f = 5 := Option.some.inj ((show Tryz.prog.funcNamed Rows.operSumsRow.func = some 5 by kernel_rfl).symm.trans hf) |>.symm
      obtain rfl : fn = Tryz.f5 := (Option.some.inj (Tryz.func5.symm.trans hfn)).symm
      exact ⟨by kernel_rfl, fun j t ht => by
        rw [Tryz.params5] at ht
        have hm : t ∈ [3, 4, 23, 27, 29] := by
          have := Array.mem_of_getElem? ht
          simp at this
          simp [this]
        have hall : ([3, 4, 23, 27, 29].all fun u => !Tryz.prog.wantsStandIn u) = true := by kernel_rfl
        exact (show Tryz.prog.wantsStandIn t = false by simpa using List.all_eq_true.1 hall t hm)⟩)
    (by kernel_rfl)
#print axioms operSums_card
end Go.Proofs.YtgljfgkkolfnbaaGreatDoor
