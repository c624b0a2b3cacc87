/- Of any operator and any value: what Unary and Step tell is what the document's own functions tell; the argument reads afterwards as before; conditions: the seven listed variables of Go's library hold what the program's text lays (the card ties them). -/
import Derived.ProofKit
import Derived.OpenShut
import Derived.LaidMore
import Derived.Lay
import Derived.SevenTiedAt
import Derived.Stop.Joined
import Derived.Lib.SmallJoins
import Derived.Test.YtakahpbondaidaaGreatDoorPB7
import Derived.Test.YtakahpbondaidaaGreatDoorPZW
import Derived.Test.YtakahpbondaidaaGreatDoorTie
import Derived.Test.YtakahpbondaidaaGreatDoorCards
namespace Go.Proofs.YtakahpbondaidaaGreatDoor
open Go.ChangeShapes Go.WideShapes Go.ChangeAt Go.RowKit Go.Joins
open Go.WideMaps Go.WideElems
open Go.ChangeMaps (open_string shut_string)

set_option maxRecDepth 100000 in
theorem operUnary_lifted (os : Os) (started : os.Started) (H : Type) (enc : TypeId × Value → H) :
    ReturnsInHanded {} Tryz.checked os 5 .any (fun w args => (Rows.operUnarySpec.pre enc Tryz.prog Tryz.f5 Rows.operUnaryRow.domain false w args ∧ laidMetH Tryz.prog Rows.operUnaryRow.laid w) ∧ sizedMet enc Tryz.prog Tryz.f5 (OpenSpec.ofChange Rows.operUnarySpec) false w args)
      (Rows.operUnarySpec.post enc Tryz.prog Tryz.f5 false true false false) := by
  refine returnsInHanded_of_change_and (C := Tryz.checked) (X := fun w _ => laidMetH Tryz.prog Rows.operUnaryRow.laid w) (fun _ _ _ hh h => h.of_heap hh) text_own started (by kernel_rfl) Tryz.func5
    (ChangeSpec.witness_shaped (enc := enc) (C := Tryz.checked) (os := os) (X := fun w _ => laidMetH Tryz.prog Rows.operUnaryRow.laid w) false (World.laidAll Tryz.prog os Rows.operUnaryRow.laid) #[.string ByteArray.empty, .agg #[.int .i64 0, .int .i64 0, .int .i64 0, .bool false, .slice none 0 0, .slice none 0 0, .int .i64 0], .int .i64 0] 8 (World.laidAll_os _ _ _)
      (World.shaped_of_ZipB (by kernel_rfl) (by kernel_rfl)) (by kernel_rfl) (by kernel_rfl) (by kernel_rfl)
      (by rw [MakeChecks.laidMetH_plain _ _ _ (by kernel_rfl)]; exact laidMet_laidAll _ (by kernel_rfl) (by kernel_rfl))) ?_
  intro W base args ds gs before hval0 hW hc _ hL _
  have hval : ∀ (j : Nat) t v, Tryz.f5.params[j]? = some t → args[j]? = some v → Value.okWide Tryz.prog W .any base t v := hval0
  have hW' := hW
  obtain ⟨p, q, hA0, hV, rfl, _, _⟩ := hW
  have hA : DataW.TrodAll enc Tryz.prog W 0 (fun _ => true) true Tryz.f5.params.toList args.toList ds p := hA0
  rw [Tryz.params5] at hA hval
  obtain ⟨v0, v1, v2, d0, d1, d2, p0, p1, p2, rfl, rfl, rfl, h0, h1, h2⟩ := trodAll_three hA
  obtain ⟨rfl, rfl⟩ := trodVars_none hV
  obtain ⟨b0, rfl, rfl, rfl, w0⟩ := open_string Tryz.underlying9 (hval 0 9 v0 rfl rfl) h0
  have k1 := h1
  obtain ⟨ka1, kb1, kc1, kd1, A1, C1, xs1, us1, n1, c1, m1, d1, r1, rfl, H1, _, _, _, _⟩ := val_open (hval 1 29 v1 rfl rfl) h1
  obtain ⟨n2, rfl, rfl, rfl, w2⟩ := open_int Tryz.underlying3 (hval 2 3 v2 rfl rfl) h2
  clear hA0 hval0
  simp only [List.append_nil] at hW'
  refine (unary_w _ _ _ _ _ _ _ _ _ _ _ _ _ _ _ W (lai_of hL) H1).mono fun e W' ⟨he, hw⟩ => ?_
  subst he
  refine ⟨_, rfl, _, _, _, [], ([] ++ (p1 ++ [])), [], hW', ?_, ?_, ?_, hw.below.frame _, fun h => by cases h⟩
  · exact trodAll_mk1 (shut_bool Tryz.underlying4 true)
  · exact trodAll_mk3 (shut_string Tryz.underlying9 w0) (Below.trod text_laid (by kernel_rfl) (of_decide_eq_true (by kernel_rfl)) k1 hw.below (fun x hx => by simpa using hW'.lt x hx)) (shut_int Tryz.underlying3 w2)
  · rfl

theorem via_all (P : Program) (S : FuncId → Prop) (hS : ∀ g, S g → ∀ h ∈ ((P.funcs[g]?).elim [] P.leadsTo), S h) : ∀ (n : Nat) (todo seen : List FuncId), (∀ x ∈ todo, S x) → (∀ x ∈ seen, S x) → ∀ x ∈ P.closureVia n todo seen, S x := by
  intro n
  induction n with
  | zero =>
    intro todo seen _ h2 x hx
    simp only [Program.closureVia] at hx
    exact h2 x (List.mem_reverse.1 hx)
  | succ n ih =>
    intro todo seen h1 h2 x hx
    cases todo with
    | nil =>
      simp only [Program.closureVia] at hx
      exact h2 x (List.mem_reverse.1 hx)
    | cons f r =>
      rw [Program.closureVia] at hx
      split at hx
      · exact ih _ _ (fun y hy => h1 y (List.mem_cons_of_mem _ hy)) h2 x hx
      · refine ih _ _ (fun y hy => ?_) (fun y hy => ?_) x hx
        · rcases List.mem_append.1 hy with hy | hy
          · exact hS f (h1 f List.mem_cons_self) y hy
          · exact h1 y (List.mem_cons_of_mem _ hy)
        · rcases List.mem_cons.1 hy with rfl | hy
          · exact h1 y List.mem_cons_self
          · exact h2 y hy
def rkT (T g : Nat) : Nat := T / 2 ^ (8 * g) % 256
theorem rkT_out {T N g : Nat} (hT : T < 2 ^ (8 * N)) (h : N ≤ g) : rkT T g = 0 := by
  unfold rkT
  rw [Nat.div_eq_of_lt (Nat.lt_of_lt_of_le hT (Nat.pow_le_pow_right (by decide) (by omega)))]
/-- A rank that falls along every call: no function comes back to itself. -/
theorem not_rec (P : Program) (f : FuncId) (T N : Nat) (hT : T < 2 ^ (8 * N)) (hf : 0 < rkT T f) (hc : ((List.range N).all fun g => rkT T g == 0 || ((P.funcs[g]?).elim [] P.leadsTo).all fun h => decide (0 < rkT T h) && decide (rkT T h < rkT T g)) = true) (hu : P.unfollowed f = false) : P.recurses f = false := by
  have key : ∀ g, 0 < rkT T g → ∀ h ∈ ((P.funcs[g]?).elim [] P.leadsTo), 0 < rkT T h ∧ rkT T h < rkT T g := by
    intro g hg h hh
    by_cases hN : g < N
    · have h1 := List.all_eq_true.1 hc g (List.mem_range.2 hN)
      rw [Bool.or_eq_true] at h1
      rcases h1 with h1 | h1
      · have := eq_of_beq h1
        omega
      · have h2 := List.all_eq_true.1 h1 h hh
        rw [Bool.and_eq_true] at h2
        exact ⟨of_decide_eq_true h2.1, of_decide_eq_true h2.2⟩
    · have := rkT_out (g := g) hT (by omega)
      omega
  unfold Program.recurses
  rw [hu, Bool.false_or, List.any_eq_false]
  intro g hg
  have hg' : 0 < rkT T g := via_all P (fun x => 0 < rkT T x) (fun a ha b hb => (key a ha b hb).1) _ _ _ (fun x hx => by rw [List.mem_singleton.1 hx]; exact hf) (fun x hx => absurd hx List.not_mem_nil) g hg
  intro ha
  obtain ⟨h, hh, hc2⟩ := List.any_eq_true.1 ha
  obtain ⟨k1, k2⟩ := key g hg' h hh
  have hc3 : g ∈ P.closure h := by simpa using hc2
  have := (via_all P (fun x => 0 < rkT T x ∧ rkT T x ≤ rkT T h) (fun a ha b hb => ⟨(key a ha.1 b hb).1, Nat.le_trans (Nat.le_of_lt (key a ha.1 b hb).2) ha.2⟩) _ _ _ (fun x hx => by rw [List.mem_singleton.1 hx]; exact ⟨k1, Nat.le_refl _⟩) (fun x hx => absurd hx List.not_mem_nil) g hc3).2
  omega
theorem op_unf : Tryz.prog.unfollowed 5 = false := by kernel_rfl
theorem op_rec : Tryz.prog.recurses 5 = false := not_rec _ _ 491440178592733191143091919350869978815358560320797670012121346374334437381718270544458135303155399681912009401712433371510855567890136613383744845472201737261050891854205441056572507052246349881329124480878037655642850371746412197872635545398431903488460976820686562440246960146526227349667178099985412383481460580764057449148119493286665589254476752691032853864737329087156564896273490306621404209275825935708331533342340111308924809105812335366553097485945273805932559814563332125008661685394868567557403848118708957943702881492175163333229247603559535179922381457354321097179699930509845999503505570697536425910012829436653182975196645145550789272684969454339673131857681574395655690206698274816 320 (of_decide_eq_true (by kernel_rfl)) (of_decide_eq_true (by kernel_rfl)) (by kernel_rfl) op_unf
theorem op_facts : joinedFacts Tryz.prog 5 Tryz.f5 Rows.operUnarySpec Rows.operUnaryRow = true := by
  unfold joinedFacts
  rw [op_rec]
  kernel_rfl

theorem operUnary_holds : Rows.OperUnarySaid :=
  OpenClaim.holds_of_wide 5 Tryz.f5 rfl rfl rfl rfl rfl rfl rfl ⟨rfl, rfl, rfl, rfl, rfl⟩ rfl rfl rfl rfl rfl (by kernel_rfl) Tryz.func5 op_facts
    (of_decide_eq_true (by kernel_rfl)) (by unfold Func.isWrapper; rw [if_neg (of_decide_eq_false (by kernel_rfl))]; exact ⟨rfl, rfl⟩)
    (fun os started H enc _ => operUnary_lifted os started H enc)

theorem operUnary_card : Rows.OperUnaryCardSaid :=
  Claim7.holds_tied_plain_at .later [] [.data, .data, .data, .data, .sentinel, .sentinel, .pinned] true (true, "339ae6686f9d0a63c25293592910f24b7efd39be309a98ae9948b5120b830402") true
    operUnary_holds (fun _ h => by cases h) (by kernel_rfl) (fun _ h => by cases h) operUnary_row_tie rfl ⟨rfl, rfl⟩ (by kernel_rfl) rfl
    (fun f fn hf hfn => by
      obtain rfl : f = 5 := Option.some.inj ((show Tryz.prog.funcNamed Rows.operUnaryRow.func = some 5 by kernel_rfl).symm.trans hf) |>.symm
      obtain rfl : fn = Tryz.f5 := (Option.some.inj (Tryz.func5.symm.trans hfn)).symm
      exact ⟨by kernel_rfl, fun j t ht => by
        rw [Tryz.params5] at ht
        have hm : t ∈ [3, 4, 9, 23, 27, 29] := by
          have := Array.mem_of_getElem? ht
          simp at this
          rcases this with rfl | rfl | rfl <;> simp
        have hall : ([3, 4, 9, 23, 27, 29].all fun u => !Tryz.prog.wantsStandIn u) = true := by kernel_rfl
        exact (show Tryz.prog.wantsStandIn t = false by simpa using List.all_eq_true.1 hall t hm)⟩)
    (by kernel_rfl)
#print axioms operUnary_card
end Go.Proofs.YtakahpbondaidaaGreatDoor
