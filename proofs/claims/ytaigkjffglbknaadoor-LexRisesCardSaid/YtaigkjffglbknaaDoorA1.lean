/- Contracts: kinds of units. -/
import Derived.Test.YtaigkjffglbknaaDoorLM
namespace Go.Proofs.YtaigkjffglbknaaDoor
open Go.RowKit


theorem isDig_c (c : Nat) (hc : c < 65536) (w : World) : Calls Tryd.prog 28 #[.int .u16 c] w fun e w' => e = .returned (.bool (isDig c)) ∧ w = w' := by
  have hm : ∀ b : Bool, b = isDig c → (Value.bool b) = .bool (isDig c) := fun b h => by rw [h]
  have HM := Lib.hid hm; clear hm
  go_enter Tryd.func28, Tryd.ntmps28
  go_wp2
  all_goals go_ret
  all_goals refine ⟨congrArg Ending.returned (HM.out _ ?_), rfl⟩
  all_goals (rw [Bool.eq_iff_iff]; simp [isDig]; try omega)

theorem isLet_c (c : Nat) (hc : c < 65536) (w : World) : Calls Tryd.prog 35 #[.int .u16 c] w fun e w' => e = .returned (.bool (isLet c)) ∧ w = w' := by
  have hm : ∀ b : Bool, b = isLet c → (Value.bool b) = .bool (isLet c) := fun b h => by rw [h]
  have HM := Lib.hid hm; clear hm
  go_enter Tryd.func35, Tryd.ntmps35
  go_wp2
  all_goals go_ret
  all_goals refine ⟨congrArg Ending.returned (HM.out _ ?_), rfl⟩
  all_goals (rw [Bool.eq_iff_iff]; simp [isLet]; try omega)

theorem isBlk_c (c : Nat) (_hc : c < 65536) (w : World) : Calls Tryd.prog 38 #[.int .u16 c] w fun e w' => e = .returned (.bool (isBlk c)) ∧ w = w' := by
  have hm : ∀ b : Bool, b = isBlk c → (Value.bool b) = .bool (isBlk c) := fun b h => by rw [h]
  have HM := Lib.hid hm; clear hm
  go_enter Tryd.func38, Tryd.ntmps38
  go_wp2
  all_goals go_ret
  all_goals refine ⟨congrArg Ending.returned (HM.out _ ?_), rfl⟩
  all_goals ((unfold isBlk; simp_all) <;> omega)

theorem isEnd_c (c : Nat) (hc : c < 65536) (w : World) : Calls Tryd.prog 39 #[.int .u16 c] w fun e w' => e = .returned (.bool (isEnd c)) ∧ w = w' := by
  have hm : ∀ b : Bool, b = isEnd c → (Value.bool b) = .bool (isEnd c) := fun b h => by rw [h]
  have HM := Lib.hid hm; clear hm
  go_enter Tryd.func39, Tryd.ntmps39
  go_wp2
  all_goals go_ret
  all_goals refine ⟨congrArg Ending.returned (HM.out _ ?_), rfl⟩
  all_goals (rw [Bool.eq_iff_iff]; simp [isEnd]; try omega)

theorem isSep_c (c : Nat) (hc : c < 65536) (w : World) : Calls Tryd.prog 55 #[.int .u16 c] w fun e w' => e = .returned (.bool (isSep c)) ∧ w = w' := by
  have hm : ∀ b : Bool, b = isSep c → (Value.bool b) = .bool (isSep c) := fun b h => by rw [h]
  have HM := Lib.hid hm; clear hm
  go_enter Tryd.func55, Tryd.ntmps55
  go_wp2
  all_goals go_ret
  all_goals refine ⟨congrArg Ending.returned (HM.out _ ?_), rfl⟩
  all_goals (rw [Bool.eq_iff_iff]; simp [isSep]; try omega)

theorem isQuo_c (c : Nat) (hc : c < 65536) (w : World) : Calls Tryd.prog 47 #[.int .u16 c] w fun e w' => e = .returned (.bool (isQuo c)) ∧ w = w' := by
  have hm : ∀ b : Bool, b = isQuo c → (Value.bool b) = .bool (isQuo c) := fun b h => by rw [h]
  have HM := Lib.hid hm; clear hm
  go_enter Tryd.func47, Tryd.ntmps47
  go_wp2
  all_goals go_ret
  all_goals refine ⟨congrArg Ending.returned (HM.out _ ?_), rfl⟩
  all_goals (rw [Bool.eq_iff_iff]; simp [isQuo]; try omega)

theorem isFra_c (c : Nat) (_hc : c < 65536) (w : World) : Calls Tryd.prog 58 #[.int .u16 c] w fun e w' => e = .returned (.bool (isFra c)) ∧ w = w' := by
  have hm : ∀ b : Bool, b = isFra c → (Value.bool b) = .bool (isFra c) := fun b h => by rw [h]
  have HM := Lib.hid hm; clear hm
  go_enter Tryd.func58, Tryd.ntmps58
  go_wp2
  all_goals go_ret
  all_goals refine ⟨congrArg Ending.returned (HM.out _ ?_), rfl⟩
  all_goals ((unfold isFra; simp_all) <;> omega)

theorem isRad_c (c : Nat) (_hc : c < 65536) (w : World) : Calls Tryd.prog 59 #[.int .u16 c] w fun e w' => e = .returned (.bool (isRad c)) ∧ w = w' := by
  have hm : ∀ b : Bool, b = isRad c → (Value.bool b) = .bool (isRad c) := fun b h => by rw [h]
  have HM := Lib.hid hm; clear hm
  go_enter Tryd.func59, Tryd.ntmps59
  go_wp2
  all_goals go_ret
  all_goals refine ⟨congrArg Ending.returned (HM.out _ ?_), rfl⟩
  all_goals ((unfold isRad; simp_all) <;> omega)

theorem isPrt_c (c : Nat) (hc : c < 65536) (w : World) : Calls Tryd.prog 29 #[.int .u16 c] w fun e w' => e = .returned (.bool (isPrt c)) ∧ w = w' := by
  unfold isPrt
  cases h : isLet c
  all_goals
    go_enter Tryd.func29, Tryd.ntmps29
    go_wp2_with (first | (go_at_call 35; (with_reducible refine (isLet_c c hc _).mono ?_); rintro e w1 ⟨rfl, rfl⟩; rw [h]) | (go_at_call 28; (with_reducible refine (isDig_c c hc _).mono ?_); rintro e w1 ⟨rfl, rfl⟩))
    go_ret
    exact ⟨rfl, rfl⟩

theorem inLin_c (c : Nat) (hc : c < 65536) (w : World) : Calls Tryd.prog 43 #[.int .u16 c] w fun e w' => e = .returned (.bool (inLin c)) ∧ w = w' := by
  unfold inLin
  go_enter Tryd.func43, Tryd.ntmps43
  go_wp2_with (go_at_call 39; (with_reducible refine (isEnd_c c hc _).mono ?_); rintro e w1 ⟨rfl, rfl⟩)
  go_ret
  exact ⟨rfl, rfl⟩

theorem ctl_c (c : Nat) (w : World) : Calls Tryd.prog 70 #[.int .u16 c] w fun e w' => e = .returned (.int .u16 (ctlV c)) ∧ w = w' := by
  have hm : ∀ b : Int, b = ctlV c → (Value.int .u16 b) = .int .u16 (ctlV c) := fun b h => by rw [h]
  have HM := Lib.hid hm; clear hm
  go_enter Tryd.func70, Tryd.ntmps70
  go_wp2
  all_goals go_ret
  all_goals refine ⟨congrArg Ending.returned (HM.out _ ?_), rfl⟩
  all_goals (simp only [beq_iff_eq, beq_eq_false_iff_ne, ne_eq] at *; unfold ctlV; (repeat' split) <;> omega)

theorem hex_c (c : Nat) (hc : c < 65536) (w : World) : Calls Tryd.prog 79 #[.int .u16 c] w fun e w' => e = .returned (.tuple #[.int .u16 (hexV c), .bool (hexB c)]) ∧ w = w' := by
  cases h : isDig c
  · have hd : ¬ (48 ≤ c ∧ c ≤ 57) := by intro q; have : isDig c = true := by simp [isDig]; exact q
                                        rw [h] at this; cases this
    by_cases a1 : 97 ≤ c ∧ c ≤ 102
    · have ev : hexV c = c - 87 := by unfold hexV; rw [h, if_neg (by decide), if_pos a1]
      have eb : hexB c = true := by unfold hexB; simp; omega
      rw [ev, eb]
      have HH := Lib.hid h
      have e1 : ((c - 87 : Nat) : Int) = (c : Int) - 97 + 10 := by omega
      rw [e1]
      have b1 : (97 : Int) ≤ c := by omega
      have b2 : (c : Int) ≤ 102 := by omega
      clear ev eb e1 a1 hd h
      go_enter Tryd.func79, Tryd.ntmps79
      go_wp2_with (go_at_call 28; (with_reducible refine (isDig_c c hc _).mono ?_); rintro e w1 ⟨rfl, rfl⟩; rw [HH.out])
      go_ret2
      exact ⟨rfl, rfl⟩
    · by_cases a2 : 65 ≤ c ∧ c ≤ 70
      · have ev : hexV c = c - 55 := by unfold hexV; rw [h, if_neg (by decide), if_neg a1, if_pos a2]
        have eb : hexB c = true := by unfold hexB; simp; omega
        rw [ev, eb]
        have HH := Lib.hid h
        have e1 : ((c - 55 : Nat) : Int) = (c : Int) - 65 + 10 := by omega
        rw [e1]
        have b1 : (65 : Int) ≤ c := by omega
        have b2 : (c : Int) ≤ 70 := by omega
        have b3 : decide ((97 : Int) ≤ c) = false := by simp; omega
        clear ev eb e1 a1 a2 hd h
        go_enter Tryd.func79, Tryd.ntmps79
        go_wp2_with (go_at_call 28; (with_reducible refine (isDig_c c hc _).mono ?_); rintro e w1 ⟨rfl, rfl⟩; rw [HH.out])
        go_ret2
        exact ⟨rfl, rfl⟩
      · have ev : hexV c = 0 := by unfold hexV; rw [h, if_neg (by decide), if_neg a1, if_neg a2]
        have eb : hexB c = false := by unfold hexB; rw [h]; simp; omega
        rw [ev, eb]
        have HH := Lib.hid h
        clear ev eb h
        go_enter Tryd.func79, Tryd.ntmps79
        go_wp2_with (go_at_call 28; (with_reducible refine (isDig_c c hc _).mono ?_); rintro e w1 ⟨rfl, rfl⟩; rw [HH.out])
        all_goals first | (exfalso; omega) | (go_ret2; exact ⟨rfl, rfl⟩)
  · have hd : 48 ≤ c ∧ c ≤ 57 := by simpa [isDig] using h
    have ev : hexV c = c - 48 := by unfold hexV; rw [h]; simp
    have eb : hexB c = true := by unfold hexB; rw [h]; rfl
    rw [ev, eb]
    have HH := Lib.hid h
    have e1 : ((c - 48 : Nat) : Int) = (c : Int) - 48 := by omega
    rw [e1]
    have b1 : (48 : Int) ≤ c := by omega
    have b2 : (c : Int) ≤ 57 := by omega
    clear ev eb e1 h hd
    go_enter Tryd.func79, Tryd.ntmps79
    go_wp2_with (go_at_call 28; (with_reducible refine (isDig_c c hc _).mono ?_); rintro e w1 ⟨rfl, rfl⟩; rw [HH.out])
    go_ret2
    exact ⟨rfl, rfl⟩
end Go.Proofs.YtaigkjffglbknaaDoor
