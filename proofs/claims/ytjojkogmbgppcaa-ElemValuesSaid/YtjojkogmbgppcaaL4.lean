/- ElemValues: for any kind, number, BigInt and word, FromNum, FromBig, ToNum and ToBig tell what the document tells. Conditions: none beyond the statement (its full form). -/
import Derived.Test.YtjojkogmbgppcaaL4w
import Derived.Test.YtjojkogmbgppcaaFR
import Derived.Test.YtjojkogmbgppcaaFR2
import Derived.ProofKit
import Derived.OpenShut
import Derived.ChangeSlices
import Derived.Carry
import Derived.LaidMore
import Derived.Lay
import Derived.Lib.SmallJoins
namespace Go.Proofs.Ytjojkogmbgppcaa
open Go.ChangeShapes Go.WideShapes Go.ChangeAt Go.RowKit Go.Joins
open Go.WideMaps Go.WideElems
open Go.ChangeMaps (open_string shut_string)

set_option maxRecDepth 100000 in
theorem elemValues_lifted (os : Os) (started : os.Started) (H : Type) (enc : TypeId × Value → H) :
    ReturnsInHanded {} Try.checked os 4 .any (Rows.elemValuesSpec.pre6 enc Try.prog Try.f4 Rows.elemValuesRow.domain false) (Rows.elemValuesSpec.post enc Try.prog Try.f4 false true false false) := by
  refine returnsInHanded_of_change (C := Try.checked) elem_own started (by kernel_rfl) Try.func4
    (ChangeSpec.witness6 (enc := enc) (C := Try.checked) false ⟨#[], #[.int .i64 0, .agg #[.int .i64 0, .int .i64 0], .agg #[.bool false, .slice none 0 0], .int .u64 0], []⟩ 8 (by kernel_rfl) (by kernel_rfl) (by kernel_rfl) (by kernel_rfl)) ?_
  intro W base args ds gs before hval0 hW _ _
  have hval : ∀ (j : Nat) t v, Try.f4.params[j]? = some t → args[j]? = some v → Value.okWide Try.prog W .any base t v := hval0
  have hW' := hW
  obtain ⟨p, q, hA0, hV, rfl, _, _⟩ := hW
  have hA : DataW.TrodAll enc Try.prog W 0 (fun _ => true) true Try.f4.params.toList args.toList ds p := hA0
  rw [Try.params4] at hA hval
  obtain ⟨v0, v1, v2, v3, d0, d1, d2, d3, p0, p1, p2, p3, rfl, rfl, rfl, h0, h1, h2, h3⟩ := trodAll_four hA
  obtain ⟨rfl, rfl⟩ := trodVars_none hV
  obtain ⟨n0, rfl, rfl, rfl, w0⟩ := open_int Try.underlying3 (hval 0 3 v0 rfl rfl) h0
  obtain ⟨na1, nb1, ny1, nz1, nf1, rfl, rfl, rfl, nh1, ni1⟩ := open_agg2 Try.underlying34 (by kernel_rfl) cells34 (hval 1 34 v1 rfl rfl) h1
  obtain ⟨k1, ke1, rfl, kw1⟩ := DataW.trod_int Try.underlying3 nh1
  obtain ⟨n1, me1, rfl, mw1⟩ := DataW.trod_int Try.underlying3 ni1
  simp at ke1 me1
  subst ke1 me1
  have nrd1 : ∀ (W' : World) (sp : Nat → Bool), DataW.Trod enc Try.prog W' 0 sp true 34 (.agg #[.int .i64 k1, .int .i64 n1]) (.agg [.lit (.int .i64 k1), .lit (.int .i64 n1)]) [] := fun W' sp =>
    shut_agg2 (y0 := (.lit (.int .i64 k1), [])) (y1 := (.lit (.int .i64 n1), [])) Try.underlying34 (by kernel_rfl) cells34 ⟨1, by simp [DataW.trod, Try.underlying3, kw1]⟩ ⟨1, by simp [DataW.trod, Try.underlying3, mw1]⟩
  have k2 := h2
  obtain ⟨ba2, bb2, by2, bz2, bf2, rfl, rfl, rfl, bh2, bi2⟩ := open_agg2 Try.underlying37 (by kernel_rfl) cells37 (hval 2 37 v2 rfl rfl) h2
  obtain ⟨n2, be2, _⟩ := DataW.trod_bool Try.underlying4 bh2
  injection be2 with be2 _
  subst be2
  obtain ⟨A2, l2, c2, xs2, rfl, r2⟩ := Bg.raw_of bi2
  obtain ⟨n3, rfl, rfl, rfl, w3⟩ := open_int Try.underlying22 (hval 3 22 v3 rfl rfl) h3
  obtain ⟨x3, e3, b3⟩ := wf_u64 w3
  subst e3
  clear hA0 hval0
  simp only [List.append_nil] at hW'
  refine (values_w n0 k1 n1 n2 _ _ _ x3 _ W b3 r2).mono fun e W' ⟨he, hw⟩ => ?_
  subst he
  refine ⟨_, rfl, _, _, _, [], ([] ++ ([] ++ ((by2.2 ++ bz2.2) ++ []))), [], hW', ?_, ?_, ?_, hw.below.frame _, fun h => by cases h⟩
  · exact trodAll_mk1 (shut_bool Try.underlying4 true)
  · exact trodAll_mk4 (shut_int Try.underlying3 w0) (nrd1 _ _) (Below.trod elem_laid (by kernel_rfl) (of_decide_eq_true (by kernel_rfl)) k2 hw.below (fun x hx => by simpa using hW'.lt x hx)) (shut_int Try.underlying22 w3)
  · rfl

theorem elemValues_holds : Rows.ElemValuesSaid :=
  OpenClaim.holds_of_wide 4 Try.f4 rfl rfl rfl rfl rfl rfl rfl ⟨rfl, rfl, rfl, rfl, rfl⟩ rfl rfl rfl rfl rfl (by kernel_rfl) Try.func4 (by kernel_rfl)
    (of_decide_eq_true (by kernel_rfl)) (by unfold Func.isWrapper; rw [if_neg (of_decide_eq_false (by kernel_rfl))]; exact ⟨rfl, rfl⟩)
    (fun os started H enc _ => elemValues_lifted os started H enc)
#print axioms elemValues_holds
end Go.Proofs.Ytjojkogmbgppcaa
