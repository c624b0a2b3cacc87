/- Walk of ModelHeads. -/
import Derived.WalkKit
import Derived.WalkSpells
import Derived.WalkLawsBesides
import Derived.Handy
import Derived.Deep.RegionHeld3
import Derived.Deep.DeepCutAuto
import Derived.Deep.QuietTactic
import Derived.BigQuiet
import Derived.Lib.Hide
import Derived.KernelRfl
import Derived.WalkMore
import Derived.Deep.LoopGhost
import Derived.IntWalk
import Derived.Deep.RegionLaw
import Derived.RangeFuncBox
import Derived.Test.YtmfdlcicbiincaaDoorMF
import Derived.Test.YtmfdlcicbiincaaDoorA3p
namespace Go.Proofs.YtmfdlcicbiincaaDoor
open Go.RowKit


def RetF4 (l : List Ev) (n m : Nat) (w : World) (e : Ending) (w' : World) : Prop := ∃ b : Bool, e = .returned (.bool b) ∧ (b = true → (n : Int) ≤ 40 ∧ (m : Int) ≤ 40 ∧ SmL l) ∧ Plus w w'
theorem few40 {l : List Ev} {ps : List Pr} {A B : Option Addr} {n c m d : Nat} (w : World) (h : Lg w l ps A n c B m d) : Calls Tryd.prog 11 #[.agg #[.slice A n c, .slice B m d], .int .i64 40] w (RetF4 l n m w) := few_s w h (by omega) (by omega)
set_option maxRecDepth 100000 in
set_option maxHeartbeats 16000000 in
theorem mheads_t {l : List Ev} {ps : List Pr} {A B : Option Addr} {n c m d : Nat} {z : Int} {N M K1 K2 : Nat} (w : World) (HK1 : Hid (K1 = (n + 63) / 64)) (HK2 : Hid (K2 = (N + 63) / 64)) (HLA : Hid (Lai w)) (HLG : Hid (Lg w l ps A n c B m d)) (HM0 : Hid (MayR l ps true)) (HMM : Hid (MayP l ps)) (HMH : Hid (MayP (l.take N) (ps.filter (amB N)))) (HM2 : Hid (MayR (l.take N) (ps.filter (amB N)) true)) (HH : Hid (l.take (hdN z l.length) = l.take N ∧ ps.filter (amB (hdN z l.length)) = ps.filter (amB N) ∧ N = (l.take N).length ∧ M = (ps.filter (amB N)).length)) (hNn : N ≤ n) : Calls Tryd.prog 6 #[.agg #[.slice A n c, .slice B m d], .int .i64 z] w fun e w' => e = .returned (.bool true) ∧ Plus w w' := by
  have hn : n ≤ 1000 := by rw [HLG.out.len.1]; exact HMM.out.1
  have HLN := Lib.hid HLG.out.len.1
  go_enter Tryd.func6, Tryd.ntmps6
  go_wp2_with (first | (go_at_call 23; (with_reducible refine (first_c _ (HLA.out.plus (by repeat' (first | exact Plus.refl _ | refine Plus.alloc ?_ _ | refine Plus.plus ?_ _ | refine Plus.drew ?_ | refine Plus.drewN ?_ _)))).mono ?_); rintro e xw ⟨rfl, ⟨y0, rfl⟩⟩) | (go_at_call 11; (with_reducible refine (few40 _ (HLG.out.plus (by repeat' (first | exact Plus.refl _ | refine Plus.alloc ?_ _ | refine Plus.plus ?_ _ | refine Plus.drew ?_ | refine Plus.drewN ?_ _)))).mono ?_); rintro e xw ⟨bf, rfl, hbf, ⟨yf, rfl⟩⟩; have HBF := Lib.hid hbf; clear hbf) | (go_at_call 20; (with_reducible refine (may_s _ HM0 (HLG.out.plus (by repeat' (first | exact Plus.refl _ | refine Plus.alloc ?_ _ | refine Plus.plus ?_ _ | refine Plus.drew ?_ | refine Plus.drewN ?_ _)))).mono ?_); rintro e xw ⟨rfl, ⟨ym, rfl⟩⟩))
  · have hbf : bf = true := by cases bf <;> simp_all
    subst hbf
    obtain ⟨f1, f2, f3⟩ := HBF.out rfl
    have HSM := Lib.hid f3
    clear HBF f3
    go_wp2_with (first | (go_at_call 38; (with_reducible refine (head_s _ (HLG.out.plus (by repeat' (first | exact Plus.refl _ | refine Plus.alloc ?_ _ | refine Plus.plus ?_ _ | refine Plus.drew ?_ | refine Plus.drewN ?_ _))) HSM HH (by omega) (by omega)).mono ?_); rintro e xw ⟨V, cV, V2, cV2, rfl, hHL, ⟨x2, rfl⟩⟩; have HHL := Lib.hid hHL; clear hHL))
    obtain ⟨b5, hb5⟩ : ∃ b5, w.heap.size + 1 + y0.blocks.length + yf.blocks.length + ym.blocks.length + x2.blocks.length = b5 := ⟨_, rfl⟩
    obtain ⟨W1, hW1⟩ : ∃ W1, (plus (plus (plus (plus (w.alloc (.cells #[.slice A n c, .slice B m d] 25)) y0) yf) ym) x2).alloc (.cells #[.slice V N cV, .slice V2 M cV2] 25) = W1 := ⟨_, rfl⟩
    have hBX : Bx W1 w.heap.size (.slice A n c) (.slice B m d) := by rw [← hW1]; exact (bx_new w _ _).plus (by repeat' (first | exact Plus.refl _ | refine Plus.alloc ?_ _ | refine Plus.plus ?_ _ | refine Plus.drew ?_ | refine Plus.drewN ?_ _))
    have hBY : Bx W1 b5 (.slice V N cV) (.slice V2 M cV2) := by rw [← hW1, ← hb5]; exact bx_new' _ _ _ (by simp [go_sem])
    have hP1 : Plus w W1 := by rw [← hW1]; exact (by repeat' (first | exact Plus.refl _ | refine Plus.alloc ?_ _ | refine Plus.plus ?_ _ | refine Plus.drew ?_ | refine Plus.drewN ?_ _))
    have hHL : Lg W1 (l.take N) (ps.filter (amB N)) V N cV V2 M cV2 := by rw [← hW1]; exact HHL.out.plus (by repeat' (first | exact Plus.refl _ | refine Plus.alloc ?_ _ | refine Plus.plus ?_ _ | refine Plus.drew ?_ | refine Plus.drewN ?_ _))
    have HHL1 := Lib.hid hHL
    have HLA1 := Lib.hid (HLA.out.plus hP1)
    have HLG1 := Lib.hid (HLG.out.plus hP1)
    rw [hb5]
    first
      | rw [hW1]
      | (simp only [plus_plus] at hW1 ⊢; rw [hW1])
    have c0 := hBX.c0
    have c1 := hBX.c1
    have d0 := hBY.c0
    have d1 := hBY.c1
    have hl5 := hBY.lt
    haveI : Old w.heap.size W1 := ⟨hBX.lt⟩
    haveI : Old b5 W1 := ⟨hl5⟩
    clear hW1 hb5 hBX hBY hHL HHL
    obtain ⟨zc, hzc⟩ := Fst.ex n (CohP l (befB l ps))
    obtain ⟨zd, hzd⟩ := Fst.ex N (CohP (l.take N) (befB (l.take N) (ps.filter (amB N))))
    obtain ⟨zt, hzt⟩ := Fst.ex n (TearP l)
    obtain ⟨zu, hzu⟩ := Fst.ex N (TearP (l.take N))
    have H2 := Lib.hid (two_f hzc hzd hNn fun r hr => coh_take HMM.out (by rw [← HLN.out]; exact hNn) hr)
    have H3 := Lib.hid (two_f hzt hzu hNn fun r hr => tear_take HMM.out (by rw [← HLN.out]; exact hNn) hr)
    have HC1 := Lib.hid hzc
    have HC2 := Lib.hid hzd
    have HT1 := Lib.hid hzt
    have HT2 := Lib.hid hzu
    clear hzc hzd hzt hzu
    refine wp_region_plus (by kernel_rfl) (by kernel_rfl) ?_
    repeat (go_big_quiet_step (first | (go_at_call_of 25 (Value.agg #[.slice A n c, .slice B m d]); exact calls_plus (coherent_t _ (HLA1.out.plus (Plus.is _)) (HLG1.out.plus (Plus.is _)) HM0 HMM HK1 HC1)) | (go_at_call 25; exact calls_plus (coherent_t _ (HLA1.out.plus (Plus.is _)) (HHL1.out.plus (Plus.is _)) HM2 HMH HK2 HC2))))
    refine wpQuiet_nil ?_
    intro _ hw'
    obtain ⟨x7, rfl⟩ := hw'
    go_wp2_with fail
    refine wp_region_plus (by kernel_rfl) (by kernel_rfl) ?_
    repeat (go_big_quiet_step (first | (go_at_call_of 27 (Value.agg #[.slice A n c, .slice B m d]); exact calls_plus (tear_t _ (HLG1.out.plus ((Plus.is _).trans (Plus.is _))) HM0 HMM HT1)) | (go_at_call 27; exact calls_plus (tear_t _ (HHL1.out.plus ((Plus.is _).trans (Plus.is _))) HM2 HMH HT2))))
    refine wpQuiet_nil ?_
    intro _ hw'
    obtain ⟨x8, rfl⟩ := hw'
    go_upto_region 8 with fail
    go_cut [79] (fun s79 wx => s79 = .bool false ∧ wx = plus (plus W1 x7) x8)
    case first =>
      rcases H2.out with ⟨rfl, rfl⟩ | ⟨r, rfl, rfl, hr⟩ | ⟨r, rfl, rfl, hr⟩ <;> rcases H3.out with ⟨rfl, rfl⟩ | ⟨s, rfl, rfl, hs⟩ | ⟨s, rfl, rfl, hs⟩
      all_goals try have g1 : ¬ (r : Int) < 0 := by omega
      all_goals try have g2 : ¬ (s : Int) < 0 := by omega
      all_goals try have g3 : (0 : Int) ≤ r := by omega
      all_goals try have g4 : (0 : Int) ≤ s := by omega
      all_goals try have g5 : ¬ (r : Int) < N := by omega
      all_goals try have g6 : ¬ (s : Int) < N := by omega
      all_goals go_wp2_with fail
      all_goals go_meet
      all_goals exact ⟨rfl, rfl⟩
    case rest =>
      obtain ⟨rfl, rfl⟩ := hcut
      by_cases hv : VldP l ps n (natL n)
      · have HV1 : Hid (VldR l ps n (natL n) true) := Lib.hid ⟨fun _ => rfl, fun _ => hv⟩
        have HV2 : Hid (VldR (l.take N) (ps.filter (amB N)) N (natL N) true) := Lib.hid ⟨fun _ => rfl, fun _ => vld_take HMM.out (by rw [← HLN.out]; exact hNn) (by rw [← HLN.out]; exact hv)⟩
        clear hv
        go_upto_region 10 with fail
        go_region_held3 (fun w' => w'.cell? ⟨w.heap.size, 0, none⟩ = some (.slice A n c) ∧ w'.cell? ⟨w.heap.size, 1, none⟩ = some (.slice B m d) ∧ w'.cell? ⟨b5, 0, none⟩ = some (.slice V N cV) ∧ w'.cell? ⟨b5, 1, none⟩ = some (.slice V2 M cV2)) (refine ⟨?_, ?_, ?_, ?_⟩ <;> simp [go_sem, c0, c1, d0, d1]) (first | (go_at_call 23; (with_reducible refine (first_c _ (HLA1.out.plus (by repeat' (first | exact Plus.refl _ | refine Plus.alloc ?_ _ | refine Plus.plus ?_ _ | refine Plus.drew ?_ | refine Plus.drewN ?_ _)))).mono ?_); rintro e xw ⟨rfl, ⟨y9, rfl⟩⟩) | (go_at_call_of 36 (Value.agg #[.slice A n c, .slice B m d]); (with_reducible refine (natural_t _ (HLG1.out.plus (by repeat' (first | exact Plus.refl _ | refine Plus.alloc ?_ _ | refine Plus.plus ?_ _ | refine Plus.drew ?_ | refine Plus.drewN ?_ _))) HM0 (by omega)).mono ?_); rintro e xw ⟨D, cD, rfl, hN1, ⟨z1, rfl⟩⟩; first | (have HN1 := Lib.hid (ar_undrew hN1); clear hN1) | (have HN1 := Lib.hid hN1; clear hN1)) | (go_at_call_of 33 (Value.agg #[.slice A n c, .slice B m d]); (with_reducible refine (valid_t _ (HLA1.out.plus (by repeat' (first | exact Plus.refl _ | refine Plus.alloc ?_ _ | refine Plus.plus ?_ _ | refine Plus.drew ?_ | refine Plus.drewN ?_ _))) (HLG1.out.plus (by repeat' (first | exact Plus.refl _ | refine Plus.alloc ?_ _ | refine Plus.plus ?_ _ | refine Plus.drew ?_ | refine Plus.drewN ?_ _))) HM0 HMM HK1 (HN1.out.plus (by repeat' (first | exact Plus.refl _ | refine Plus.alloc ?_ _ | refine Plus.plus ?_ _ | refine Plus.drew ?_ | refine Plus.drewN ?_ _))) HV1).mono ?_); rintro e xw ⟨rfl, ⟨z3, rfl⟩⟩) | (go_at_call 36; (with_reducible refine (natural_t _ (HHL1.out.plus (by repeat' (first | exact Plus.refl _ | refine Plus.alloc ?_ _ | refine Plus.plus ?_ _ | refine Plus.drew ?_ | refine Plus.drewN ?_ _))) HM2 (by omega)).mono ?_); rintro e xw ⟨D, cD, rfl, hN1, ⟨z2, rfl⟩⟩; first | (have HN1 := Lib.hid (ar_undrew hN1); clear hN1) | (have HN1 := Lib.hid hN1; clear hN1)) | (go_at_call 33; (with_reducible refine (valid_t _ (HLA1.out.plus (by repeat' (first | exact Plus.refl _ | refine Plus.alloc ?_ _ | refine Plus.plus ?_ _ | refine Plus.drew ?_ | refine Plus.drewN ?_ _))) (HHL1.out.plus (by repeat' (first | exact Plus.refl _ | refine Plus.alloc ?_ _ | refine Plus.plus ?_ _ | refine Plus.drew ?_ | refine Plus.drewN ?_ _))) HM2 HMH HK2 (HN1.out.plus (by repeat' (first | exact Plus.refl _ | refine Plus.alloc ?_ _ | refine Plus.plus ?_ _ | refine Plus.drew ?_ | refine Plus.drewN ?_ _))) HV2).mono ?_); rintro e xw ⟨rfl, ⟨z4, rfl⟩⟩))
        all_goals go_wp2_with fail
        all_goals go_returns
        all_goals exact ⟨rfl, hP1.trans (by repeat' (first | exact Plus.refl _ | refine Plus.alloc ?_ _ | refine Plus.plus ?_ _ | refine Plus.drew ?_ | refine Plus.drewN ?_ _))⟩
      · have HV1 : Hid (VldR l ps n (natL n) false) := Lib.hid ⟨fun h => absurd h hv, fun h => by cases h⟩
        clear hv
        go_upto_region 10 with fail
        refine wp_region_noPanic ?_
        refine wp_region_held_drew (S := (fun w' => w'.cell? ⟨w.heap.size, 0, none⟩ = some (.slice A n c) ∧ w'.cell? ⟨w.heap.size, 1, none⟩ = some (.slice B m d) ∧ w'.cell? ⟨b5, 0, none⟩ = some (.slice V N cV) ∧ w'.cell? ⟨b5, 1, none⟩ = some (.slice V2 M cV2))) (by kernel_rfl) (by refine ⟨?_, ?_, ?_, ?_⟩ <;> simp [go_sem, c0, c1, d0, d1]) (fun hHeld => ?_)
        refine wpAnyH_ready (rs := [0]) (by kernel_rfl) (by simp) ?_
        refine AllReadyH.cons (o := { dst := some 80, op := Go.Op.call { callee := Go.Callee.value (Go.Operand.func 23), args := #[], argTypes := #[] }, type := 4, pos := "law.go:56", after := #[], guard := none }) rfl (fun K hK => ?_) AllReadyH.nil
        go_simp
        (with_reducible refine (first_c _ (HLA1.out.plus (by repeat' (first | exact Plus.refl _ | refine Plus.alloc ?_ _ | refine Plus.plus ?_ _ | refine Plus.drew ?_ | refine Plus.drewN ?_ _)))).mono ?_); rintro e xw ⟨rfl, ⟨y9, rfl⟩⟩
        go_wp2_with fail
        refine hK.out _ _ (by (try dsimp only); refine ⟨?_, ?_, ?_, ?_⟩ <;> simp [go_sem, c0, c1, d0, d1]) (fun hHeld1 => ?_)
        clear hK K hHeld
        try simp only [Act.put, List.setIfInBounds_toArray, List.set_cons_zero, List.set_cons_succ]
        refine wpAnyH_take (i := 1) (oi := { dst := some 81, op := Go.Op.move (Go.Operand.tmp 80), type := 4, pos := "law.go:56", after := #[{ on := 0, ground := Go.Ground.data }, { on := 0, ground := Go.Ground.chain }], guard := none }) (v := ?v10_1) rfl (by kernel_rfl) (by kernel_rfl) (by kernel_rfl) (fun _ _ _ h => h) (Or.inl ⟨by rfl, ?hy10_1⟩) hHeld1 ?_
        case hy10_1 => (intro w hSw; (try dsimp only at hSw); go_simp; first | done | with_reducible rfl)
        try simp only [Act.put, List.setIfInBounds_toArray, List.set_cons_zero, List.set_cons_succ]
        refine wpAnyH_take (i := 2) (oi := { dst := some 82, op := Go.Op.load 25 (Go.Operand.tmp 2), type := 25, pos := "law.go:56", after := #[{ on := 1, ground := Go.Ground.guard }], guard := some (1, true) }) (v := ?v10_2) rfl (by kernel_rfl) (by kernel_rfl) (by kernel_rfl) (fun _ _ _ h => h) (Or.inl ⟨by rfl, ?hy10_2⟩) hHeld1 ?_
        case hy10_2 => (intro w hSw; (try dsimp only at hSw); go_simp; first | done | with_reducible rfl)
        try simp only [Act.put, List.setIfInBounds_toArray, List.set_cons_zero, List.set_cons_succ]
        refine wpAnyH_take (i := 3) (oi := { dst := some 83, op := Go.Op.load 25 (Go.Operand.tmp 2), type := 25, pos := "law.go:56", after := #[{ on := 1, ground := Go.Ground.guard }], guard := some (1, true) }) (v := ?v10_3) rfl (by kernel_rfl) (by kernel_rfl) (by kernel_rfl) (fun _ _ _ h => h) (Or.inl ⟨by rfl, ?hy10_3⟩) hHeld1 ?_
        case hy10_3 => (intro w hSw; (try dsimp only at hSw); go_simp; first | done | with_reducible rfl)
        try simp only [Act.put, List.setIfInBounds_toArray, List.set_cons_zero, List.set_cons_succ]
        refine wpAnyH_ready (rs := [4]) (by kernel_rfl) (by simp) ?_
        refine AllReadyH.cons (o := { dst := some 84, op := Go.Op.call { callee := Go.Callee.value (Go.Operand.func 36), args := #[Go.Operand.tmp 83], argTypes := #[25] }, type := 40, pos := "law.go:56", after := #[{ on := 3, ground := Go.Ground.data }, { on := 1, ground := Go.Ground.chain }, { on := 1, ground := Go.Ground.guard }], guard := some (1, true) }) rfl (fun K hK => ?_) AllReadyH.nil
        go_simp
        (with_reducible refine (natural_t _ (HLG1.out.plus (by repeat' (first | exact Plus.refl _ | refine Plus.alloc ?_ _ | refine Plus.plus ?_ _ | refine Plus.drew ?_ | refine Plus.drewN ?_ _))) HM0 (by omega)).mono ?_); rintro e xw ⟨D, cD, rfl, hN1, ⟨z1, rfl⟩⟩; first | (have HN1 := Lib.hid (ar_undrew hN1); clear hN1) | (have HN1 := Lib.hid hN1; clear hN1)
        go_wp2_with fail
        refine hK.out _ _ (by (try dsimp only); refine ⟨?_, ?_, ?_, ?_⟩ <;> simp [go_sem, c0, c1, d0, d1]) (fun hHeld2 => ?_)
        clear hK K hHeld1
        try simp only [Act.put, List.setIfInBounds_toArray, List.set_cons_zero, List.set_cons_succ]
        refine wpAnyH_ready (rs := [5]) (by kernel_rfl) (by simp) ?_
        refine AllReadyH.cons (o := { dst := some 85, op := Go.Op.call { callee := Go.Callee.value (Go.Operand.func 33), args := #[Go.Operand.tmp 82, Go.Operand.tmp 84], argTypes := #[25, 40] }, type := 4, pos := "law.go:56", after := #[{ on := 2, ground := Go.Ground.data }, { on := 4, ground := Go.Ground.data }, { on := 4, ground := Go.Ground.chain }, { on := 1, ground := Go.Ground.guard }], guard := some (1, true) }) rfl (fun K hK => ?_) AllReadyH.nil
        go_simp
        (with_reducible refine (valid_t _ (HLA1.out.plus (by repeat' (first | exact Plus.refl _ | refine Plus.alloc ?_ _ | refine Plus.plus ?_ _ | refine Plus.drew ?_ | refine Plus.drewN ?_ _))) (HLG1.out.plus (by repeat' (first | exact Plus.refl _ | refine Plus.alloc ?_ _ | refine Plus.plus ?_ _ | refine Plus.drew ?_ | refine Plus.drewN ?_ _))) HM0 HMM HK1 (HN1.out.plus (by repeat' (first | exact Plus.refl _ | refine Plus.alloc ?_ _ | refine Plus.plus ?_ _ | refine Plus.drew ?_ | refine Plus.drewN ?_ _))) HV1).mono ?_); rintro e xw ⟨rfl, ⟨z3, rfl⟩⟩
        go_wp2_with fail
        refine hK.out _ _ (by (try dsimp only); refine ⟨?_, ?_, ?_, ?_⟩ <;> simp [go_sem, c0, c1, d0, d1]) (fun hHeld3 => ?_)
        clear hK K hHeld2
        try simp only [Act.put, List.setIfInBounds_toArray, List.set_cons_zero, List.set_cons_succ]
        refine wpAnyH_take (i := 6) (oi := { dst := some 86, op := Go.Op.unOp Go.UnOp.not 4 (Go.Operand.tmp 85), type := 4, pos := "law.go:56", after := #[{ on := 5, ground := Go.Ground.data }, { on := 1, ground := Go.Ground.guard }], guard := some (1, true) }) (v := ?v10_6) rfl (by kernel_rfl) (by kernel_rfl) (by kernel_rfl) (fun _ _ _ h => h) (Or.inl ⟨by rfl, ?hy10_6⟩) hHeld3 ?_
        case hy10_6 => (intro w hSw; (try dsimp only at hSw); go_simp; first | done | with_reducible rfl)
        try simp only [Act.put, List.setIfInBounds_toArray, List.set_cons_zero, List.set_cons_succ]
        refine wpAnyH_take (i := 7) (oi := { dst := some 87, op := Go.Op.move (Go.Operand.tmp 86), type := 4, pos := "law.go:56", after := #[{ on := 6, ground := Go.Ground.data }, { on := 5, ground := Go.Ground.chain }, { on := 1, ground := Go.Ground.guard }], guard := some (1, true) }) (v := ?v10_7) rfl (by kernel_rfl) (by kernel_rfl) (by kernel_rfl) (fun _ _ _ h => h) (Or.inl ⟨by rfl, ?hy10_7⟩) hHeld3 ?_
        case hy10_7 => (intro w hSw; (try dsimp only at hSw); go_simp; first | done | with_reducible rfl)
        try simp only [Act.put, List.setIfInBounds_toArray, List.set_cons_zero, List.set_cons_succ]
        refine wpAnyH_take (i := 8) (oi := { dst := some 88, op := Go.Op.load 25 (Go.Operand.tmp 5), type := 25, pos := "law.go:56", after := #[{ on := 7, ground := Go.Ground.guard }], guard := some (7, false) }) (v := undef) rfl (by kernel_rfl) (by kernel_rfl) (by kernel_rfl) (fun _ _ _ h => h) (Or.inr ⟨by rfl, rfl⟩) hHeld3 ?_
        try simp only [Act.put, List.setIfInBounds_toArray, List.set_cons_zero, List.set_cons_succ]
        refine wpAnyH_take (i := 9) (oi := { dst := some 89, op := Go.Op.load 25 (Go.Operand.tmp 5), type := 25, pos := "law.go:56", after := #[{ on := 7, ground := Go.Ground.guard }], guard := some (7, false) }) (v := undef) rfl (by kernel_rfl) (by kernel_rfl) (by kernel_rfl) (fun _ _ _ h => h) (Or.inr ⟨by rfl, rfl⟩) hHeld3 ?_
        try simp only [Act.put, List.setIfInBounds_toArray, List.set_cons_zero, List.set_cons_succ]
        refine wpAnyH_take (i := 10) (oi := { dst := some 90, op := Go.Op.call { callee := Go.Callee.value (Go.Operand.func 36), args := #[Go.Operand.tmp 89], argTypes := #[25] }, type := 40, pos := "law.go:56", after := #[{ on := 9, ground := Go.Ground.data }, { on := 7, ground := Go.Ground.chain }, { on := 7, ground := Go.Ground.guard }], guard := some (7, false) }) (v := undef) rfl (by kernel_rfl) (by kernel_rfl) (by kernel_rfl) (fun _ _ _ h => h) (Or.inr ⟨by rfl, rfl⟩) hHeld3 ?_
        try simp only [Act.put, List.setIfInBounds_toArray, List.set_cons_zero, List.set_cons_succ]
        refine wpAnyH_take (i := 11) (oi := { dst := some 91, op := Go.Op.call { callee := Go.Callee.value (Go.Operand.func 33), args := #[Go.Operand.tmp 88, Go.Operand.tmp 90], argTypes := #[25, 40] }, type := 4, pos := "law.go:56", after := #[{ on := 8, ground := Go.Ground.data }, { on := 10, ground := Go.Ground.data }, { on := 10, ground := Go.Ground.chain }, { on := 7, ground := Go.Ground.guard }], guard := some (7, false) }) (v := undef) rfl (by kernel_rfl) (by kernel_rfl) (by kernel_rfl) (fun _ _ _ h => h) (Or.inr ⟨by rfl, rfl⟩) hHeld3 ?_
        try simp only [Act.put, List.setIfInBounds_toArray, List.set_cons_zero, List.set_cons_succ]
        refine wpAnyH_take (i := 12) (oi := { dst := some 92, op := Go.Op.pick (Go.Operand.tmp 87) (Go.Operand.const (Go.Value.bool true)) (Go.Operand.tmp 91), type := 4, pos := "law.go:56", after := #[{ on := 7, ground := Go.Ground.data }, { on := 11, ground := Go.Ground.data }, { on := 1, ground := Go.Ground.guard }], guard := some (1, true) }) (v := ?v10_12) rfl (by kernel_rfl) (by kernel_rfl) (by kernel_rfl) (fun _ _ _ h => h) (Or.inl ⟨by rfl, ?hy10_12⟩) hHeld3 ?_
        case hy10_12 => (intro w hSw; (try dsimp only at hSw); go_simp; first | done | with_reducible rfl)
        try simp only [Act.put, List.setIfInBounds_toArray, List.set_cons_zero, List.set_cons_succ]
        refine wpAnyH_take (i := 13) (oi := { dst := some 93, op := Go.Op.pick (Go.Operand.tmp 81) (Go.Operand.tmp 92) (Go.Operand.const (Go.Value.bool false)), type := 4, pos := "law.go:56", after := #[{ on := 1, ground := Go.Ground.data }, { on := 12, ground := Go.Ground.data }], guard := none }) (v := ?v10_13) rfl (by kernel_rfl) (by kernel_rfl) (by kernel_rfl) (fun _ _ _ h => h) (Or.inl ⟨by rfl, ?hy10_13⟩) hHeld3 ?_
        case hy10_13 => (intro w hSw; (try dsimp only at hSw); go_simp; first | done | with_reducible rfl)
        try simp only [Act.put, List.setIfInBounds_toArray, List.set_cons_zero, List.set_cons_succ]
        refine wpAnyH_take (i := 14) (oi := { dst := some 4, op := Go.Op.assign (Go.Operand.tmp 93), type := 4, pos := "law.go:56", after := #[{ on := 13, ground := Go.Ground.data }, { on := 11, ground := Go.Ground.chain }, { on := 0, ground := Go.Ground.phase }, { on := 1, ground := Go.Ground.phase }, { on := 2, ground := Go.Ground.phase }, { on := 3, ground := Go.Ground.phase }, { on := 4, ground := Go.Ground.phase }, { on := 5, ground := Go.Ground.phase }, { on := 6, ground := Go.Ground.phase }, { on := 7, ground := Go.Ground.phase }, { on := 8, ground := Go.Ground.phase }, { on := 9, ground := Go.Ground.phase }, { on := 10, ground := Go.Ground.phase }, { on := 11, ground := Go.Ground.phase }, { on := 12, ground := Go.Ground.phase }, { on := 13, ground := Go.Ground.phase }], guard := none }) (v := ?v10_14) rfl (by kernel_rfl) (by kernel_rfl) (by kernel_rfl) (fun _ _ _ h => h) (Or.inl ⟨by rfl, ?hy10_14⟩) hHeld3 ?_
        case hy10_14 => (intro w hSw; (try dsimp only at hSw); go_simp; first | done | with_reducible rfl)
        try simp only [Act.put, List.setIfInBounds_toArray, List.set_cons_zero, List.set_cons_succ]
        refine wpAnyH_done (by kernel_rfl) ?_ _
        refine NoPanic.normal ?_
        go_wp2_with fail
        go_returns
        exact ⟨rfl, hP1.trans (by repeat' (first | exact Plus.refl _ | refine Plus.alloc ?_ _ | refine Plus.plus ?_ _ | refine Plus.drew ?_ | refine Plus.drewN ?_ _))⟩
  · go_returns
    exact ⟨rfl, (by repeat' (first | exact Plus.refl _ | refine Plus.alloc ?_ _ | refine Plus.plus ?_ _ | refine Plus.drew ?_ | refine Plus.drewN ?_ _))⟩
set_option maxRecDepth 100000 in
set_option maxHeartbeats 4000000 in
theorem mheads_f {l : List Ev} {ps : List Pr} {A B : Option Addr} {n c m d : Nat} {z : Int} (w : World) (HLA : Hid (Lai w)) (HLG : Hid (Lg w l ps A n c B m d)) (HM0 : Hid (MayR l ps false)) : Calls Tryd.prog 6 #[.agg #[.slice A n c, .slice B m d], .int .i64 z] w fun e w' => e = .returned (.bool true) ∧ Plus w w' := by
  go_enter Tryd.func6, Tryd.ntmps6
  go_wp2_with (first | (go_at_call 23; (with_reducible refine (first_c _ (HLA.out.plus (by repeat' (first | exact Plus.refl _ | refine Plus.alloc ?_ _ | refine Plus.plus ?_ _ | refine Plus.drew ?_ | refine Plus.drewN ?_ _)))).mono ?_); rintro e xw ⟨rfl, ⟨y0, rfl⟩⟩) | (go_at_call 11; (with_reducible refine (few40 _ (HLG.out.plus (by repeat' (first | exact Plus.refl _ | refine Plus.alloc ?_ _ | refine Plus.plus ?_ _ | refine Plus.drew ?_ | refine Plus.drewN ?_ _)))).mono ?_); rintro e xw ⟨bf, rfl, hbf, ⟨yf, rfl⟩⟩; have HBF := Lib.hid hbf; clear hbf) | (go_at_call 20; (with_reducible refine (may_s _ HM0 (HLG.out.plus (by repeat' (first | exact Plus.refl _ | refine Plus.alloc ?_ _ | refine Plus.plus ?_ _ | refine Plus.drew ?_ | refine Plus.drewN ?_ _)))).mono ?_); rintro e xw ⟨rfl, ⟨ym, rfl⟩⟩))
  all_goals go_returns
  all_goals exact ⟨rfl, (by repeat' (first | exact Plus.refl _ | refine Plus.alloc ?_ _ | refine Plus.plus ?_ _ | refine Plus.drew ?_ | refine Plus.drewN ?_ _))⟩
theorem mheads_w {l : List Ev} {ps : List Pr} {A B : Option Addr} {n c m d : Nat} (w : World) (hL : Lai w) (H : Lg w l ps A n c B m d) (z : Int) : Calls Tryd.prog 6 #[.agg #[.slice A n c, .slice B m d], .int .i64 z] w fun e w' => e = .returned (.bool true) ∧ Plus w w' := by
  by_cases h : MayP l ps
  · have hn := H.len.1
    obtain ⟨N, hNd⟩ : ∃ N, hdN z l.length = N := ⟨_, rfl⟩
    have hNn : N ≤ n := by
      unfold hdN at hNd
      omega
    have hl : N = (l.take N).length := by rw [List.length_take]; omega
    have hm := may_head h (show N ≤ l.length by omega)
    exact mheads_t (K1 := (n + 63) / 64) (K2 := (N + 63) / 64) (N := N) (M := (ps.filter (amB N)).length) w (Lib.hid rfl) (Lib.hid rfl) (Lib.hid hL) (Lib.hid H) (Lib.hid ⟨fun _ => rfl, fun _ => h⟩) (Lib.hid h) (Lib.hid hm) (Lib.hid ⟨fun _ => rfl, fun _ => hm⟩) (Lib.hid ⟨by rw [hNd], by rw [hNd], hl, rfl⟩) hNn
  · exact mheads_f w (Lib.hid hL) (Lib.hid H) (Lib.hid ⟨fun q => absurd q h, fun q => by cases q⟩)
end Go.Proofs.YtmfdlcicbiincaaDoor
