/- Contracts of the small functions of package num. -/
import Derived.Test.YtdmodkmliagiiaaDoorProg
import Derived.Test.YtdmodkmliagiiaaDoorS
import Derived.Test.YtdmodkmliagiiaaDoorP
import Derived.WalkKit
import Derived.WalkSpells
import Derived.WalkLawsBesides
import Derived.Handy
import Derived.Deep.RegionHeld3
import Derived.Deep.DeepCutAuto
import Derived.Deep.QuietTactic
import Derived.BigQuiet
import Derived.Lib.Hide
import Derived.KernelRfl
namespace Go.Proofs.YtdmodkmliagiiaaDoor
open Go.RowKit

theorem beq_f {a b : Int} (h : a ≠ b) : (a == b) = false := by simpa using h

theorem isNaN_c (k n : Int) (w : World) : Calls Tryd.prog 56 #[.agg #[.int .i64 k, .int .i64 n]] w fun e w' => e = .returned (.bool (k == 2)) ∧ Plus w w' := by
  go_enter Tryd.func56, Tryd.ntmps56
  go_wp2
  go_ret
  exact ⟨rfl, (Plus.refl _).alloc _⟩

theorem rnan_c (k n : Int) (w : World) : Calls Tryd.prog 60 #[.agg #[.int .i64 k, .int .i64 n]] w fun e w' => e = .returned (.bool (k == 2)) ∧ Plus w w' := by
  go_enter Tryd.func60, Tryd.ntmps60
  go_wp2
  go_ret
  exact ⟨rfl, (Plus.refl _).alloc _⟩

theorem nan_c  (w : World) : Calls Tryd.prog 58 #[] w fun e w' => e = .returned (.agg #[.int .i64 2, .int .i64 0]) ∧ Plus w w' := by
  go_enter Tryd.func58, Tryd.ntmps58
  go_wp2
  go_returns
  exact ⟨rfl, (Plus.refl _).alloc _⟩

theorem kind_c (k : Int) (w : World) : Calls Tryd.prog 72 #[.int .i64 k] w fun e w' => e = .returned (.agg #[.int .i64 k, .int .i64 0]) ∧ Plus w w' := by
  go_enter Tryd.func72, Tryd.ntmps72
  go_wp2
  go_returns
  exact ⟨rfl, (Plus.refl _).alloc _⟩

theorem w_c (n : Int) (w : World) : Calls Tryd.prog 54 #[.int .i64 n] w fun e w' => e = .returned (.agg #[.int .i64 0, .int .i64 n]) ∧ Plus w w' := by
  go_enter Tryd.func54, Tryd.ntmps54
  go_wp2
  go_returns
  exact ⟨rfl, (Plus.refl _).alloc _⟩

theorem rNaN_c  (w : World) : Calls Tryd.prog 62 #[] w fun e w' => e = .returned (.agg #[.int .i64 2, .int .i64 0]) ∧ Plus w w' := by
  go_enter Tryd.func62, Tryd.ntmps62
  go_wp2_with (go_at_call 72; refine (kind_c _ _).mono ?_; rintro e w1 ⟨rfl, ⟨x1, rfl⟩⟩)
  go_returns
  exact ⟨rfl, ((Plus.refl _).alloc _).plus _⟩

theorem isInf_c (k n : Int) (w : World) : Calls Tryd.prog 57 #[.agg #[.int .i64 k, .int .i64 n]] w fun e w' => e = .returned (.bool (k == 3 || k == 4)) ∧ Plus w w' := by
  by_cases h : k = 3
  · subst h
    go_enter Tryd.func57, Tryd.ntmps57
    go_wp2
    go_ret
    exact ⟨rfl, (Plus.refl _).alloc _⟩
  · have h3 := beq_f h
    rw [h3]
    go_enter Tryd.func57, Tryd.ntmps57
    go_wp2
    go_ret
    exact ⟨rfl, (Plus.refl _).alloc _⟩

theorem rinf_c (k n : Int) (w : World) : Calls Tryd.prog 61 #[.agg #[.int .i64 k, .int .i64 n]] w fun e w' => e = .returned (.bool (k == 3 || k == 4)) ∧ Plus w w' := by
  by_cases h : k = 3
  · subst h
    go_enter Tryd.func61, Tryd.ntmps61
    go_wp2
    go_ret
    exact ⟨rfl, (Plus.refl _).alloc _⟩
  · have h3 := beq_f h
    rw [h3]
    go_enter Tryd.func61, Tryd.ntmps61
    go_wp2
    go_ret
    exact ⟨rfl, (Plus.refl _).alloc _⟩

theorem isZero_c (k n : Int) (w : World) : Calls Tryd.prog 64 #[.agg #[.int .i64 k, .int .i64 n]] w fun e w' => e = .returned (.bool (k == 1 || (k == 0 && n == 0))) ∧ Plus w w' := by
  by_cases h : k = 1
  · subst h
    go_enter Tryd.func64, Tryd.ntmps64
    go_wp2
    go_ret
    exact ⟨rfl, (Plus.refl _).alloc _⟩
  · have h3 := beq_f h
    rw [h3]
    by_cases h0 : k = 0
    · subst h0
      go_enter Tryd.func64, Tryd.ntmps64
      go_wp2
      go_ret
      exact ⟨rfl, (Plus.refl _).alloc _⟩
    · have h4 := beq_f h0
      rw [h4]
      go_enter Tryd.func64, Tryd.ntmps64
      go_wp2
      go_ret
      exact ⟨rfl, (Plus.refl _).alloc _⟩

theorem rnought_c (k n : Int) (w : World) : Calls Tryd.prog 69 #[.agg #[.int .i64 k, .int .i64 n]] w fun e w' => e = .returned (.bool (k == 1 || (k == 0 && n == 0))) ∧ Plus w w' := by
  by_cases h : k = 1
  · subst h
    go_enter Tryd.func69, Tryd.ntmps69
    go_wp2
    go_ret
    exact ⟨rfl, (Plus.refl _).alloc _⟩
  · have h3 := beq_f h
    rw [h3]
    by_cases h0 : k = 0
    · subst h0
      go_enter Tryd.func69, Tryd.ntmps69
      go_wp2
      go_ret
      exact ⟨rfl, (Plus.refl _).alloc _⟩
    · have h4 := beq_f h0
      rw [h4]
      go_enter Tryd.func69, Tryd.ntmps69
      go_wp2
      go_ret
      exact ⟨rfl, (Plus.refl _).alloc _⟩

theorem isNeg_c (k n : Int) (w : World) : Calls Tryd.prog 63 #[.agg #[.int .i64 k, .int .i64 n]] w fun e w' => e = .returned (.bool (negB k n)) ∧ Plus w w' := by
  have hm : ∀ b : Bool, b = negB k n → (Value.bool b) = .bool (negB k n) := fun b h => by rw [h]
  have HM := Lib.hid hm; clear hm
  go_enter Tryd.func63, Tryd.ntmps63
  go_wp2
  all_goals go_ret
  all_goals refine ⟨congrArg Ending.returned (HM.out _ ?_), (Plus.refl _).alloc _⟩
  all_goals (unfold negB; simp_all)

theorem rbelow_c (k n : Int) (w : World) : Calls Tryd.prog 68 #[.agg #[.int .i64 k, .int .i64 n]] w fun e w' => e = .returned (.bool (negB k n)) ∧ Plus w w' := by
  have hm : ∀ b : Bool, b = negB k n → (Value.bool b) = .bool (negB k n) := fun b h => by rw [h]
  have HM := Lib.hid hm; clear hm
  go_enter Tryd.func68, Tryd.ntmps68
  go_wp2
  all_goals go_ret
  all_goals refine ⟨congrArg Ending.returned (HM.out _ ?_), (Plus.refl _).alloc _⟩
  all_goals (unfold negB; simp_all)

theorem infinity_c (b : Bool) (w : World) : Calls Tryd.prog 65 #[.bool b] w fun e w' => e = .returned (.agg #[.int .i64 (infK b), .int .i64 0]) ∧ Plus w w' := by
  cases b
  · go_enter Tryd.func65, Tryd.ntmps65
    go_wp2
    go_returns
    exact ⟨rfl, (Plus.refl _).alloc _⟩
  · go_enter Tryd.func65, Tryd.ntmps65
    go_wp2
    go_returns
    exact ⟨rfl, (Plus.refl _).alloc _⟩

theorem zero_c (b : Bool) (w : World) : Calls Tryd.prog 66 #[.bool b] w fun e w' => e = .returned (.agg #[.int .i64 (zeroK b), .int .i64 0]) ∧ Plus w w' := by
  cases b
  · go_enter Tryd.func66, Tryd.ntmps66
    go_wp2
    go_returns
    exact ⟨rfl, (Plus.refl _).alloc _⟩
  · go_enter Tryd.func66, Tryd.ntmps66
    go_wp2
    go_returns
    exact ⟨rfl, (Plus.refl _).alloc _⟩

theorem may_c (k n : Int) (w : World) : Calls Tryd.prog 24 #[.agg #[.int .i64 k, .int .i64 n]] w fun e w' => e = .returned (.bool (mayB k n)) ∧ Plus w w' := by
  have hm : ∀ b : Bool, b = mayB k n → (Value.bool b) = .bool (mayB k n) := fun b h => by rw [h]
  have HM := Lib.hid hm; clear hm
  go_enter Tryd.func24, Tryd.ntmps24
  go_wp2
  all_goals go_ret
  all_goals refine ⟨congrArg Ending.returned (HM.out _ ?_), (Plus.refl _).alloc _⟩
  all_goals (unfold mayB; simp_all)
  all_goals omega

theorem rmay_c (k n : Int) (w : World) : Calls Tryd.prog 25 #[.agg #[.int .i64 k, .int .i64 n]] w fun e w' => e = .returned (.bool (mayB k n)) ∧ Plus w w' := by
  have hm : ∀ b : Bool, b = mayB k n → (Value.bool b) = .bool (mayB k n) := fun b h => by rw [h]
  have HM := Lib.hid hm; clear hm
  go_enter Tryd.func25, Tryd.ntmps25
  go_wp2
  all_goals go_ret
  all_goals refine ⟨congrArg Ending.returned (HM.out _ ?_), (Plus.refl _).alloc _⟩
  all_goals (unfold mayB; simp_all)
  all_goals omega

theorem valid_c (k n : Int) (w : World) : Calls Tryd.prog 55 #[.agg #[.int .i64 k, .int .i64 n]] w fun e w' => e = .returned (.agg #[.int .i64 (vk k n), .int .i64 (vn k n)]) ∧ Plus w w' := by
  by_cases h : mayB k n = true
  · have h1 : vk k n = k := by unfold vk; rw [if_pos h]
    have h2 : vn k n = n := by unfold vn; rw [if_pos h]
    rw [h1, h2]; clear h1 h2
    go_enter Tryd.func55, Tryd.ntmps55
    go_wp2_with (first | (go_at_call 24; refine (may_c _ _ _).mono ?_; rintro e w1 ⟨rfl, ⟨x1, rfl⟩⟩) | (go_at_call 58; refine (nan_c _).mono ?_; rintro e w1 ⟨rfl, ⟨x2, rfl⟩⟩))
    go_returns
    refine ⟨rfl, ?_⟩
    repeat' (first | exact Plus.refl _ | refine Plus.alloc ?_ _ | refine Plus.plus ?_ _ | refine Plus.drew ?_ | refine Plus.drewN ?_ _)
  · have h1 : vk k n = 2 := by unfold vk; rw [if_neg h]
    have h2 : vn k n = 0 := by unfold vn; rw [if_neg h]
    have h' : mayB k n = false := by simpa using h
    rw [h1, h2]; clear h1 h2 h
    go_enter Tryd.func55, Tryd.ntmps55
    go_wp2_with (first | (go_at_call 24; refine (may_c _ _ _).mono ?_; rintro e w1 ⟨rfl, ⟨x1, rfl⟩⟩) | (go_at_call 58; refine (nan_c _).mono ?_; rintro e w1 ⟨rfl, ⟨x2, rfl⟩⟩))
    go_returns
    refine ⟨rfl, ?_⟩
    repeat' (first | exact Plus.refl _ | refine Plus.alloc ?_ _ | refine Plus.plus ?_ _ | refine Plus.drew ?_ | refine Plus.drewN ?_ _)

theorem valid_h {k n p q : Int} (h : Hid (vk k n = p ∧ vn k n = q)) (w : World) : Calls Tryd.prog 55 #[.agg #[.int .i64 k, .int .i64 n]] w fun e w' => e = .returned (.agg #[.int .i64 p, .int .i64 q]) ∧ Plus w w' := by
  obtain ⟨rfl, rfl⟩ := h.out
  exact valid_c k n w

theorem rgood_c (k n : Int) (w : World) : Calls Tryd.prog 59 #[.agg #[.int .i64 k, .int .i64 n]] w fun e w' => e = .returned (.agg #[.int .i64 (vk k n), .int .i64 (vn k n)]) ∧ Plus w w' := by
  by_cases h : mayB k n = true
  · have h1 : vk k n = k := by unfold vk; rw [if_pos h]
    have h2 : vn k n = n := by unfold vn; rw [if_pos h]
    rw [h1, h2]; clear h1 h2
    go_enter Tryd.func59, Tryd.ntmps59
    go_wp2_with (first | (go_at_call 25; refine (rmay_c _ _ _).mono ?_; rintro e w1 ⟨rfl, ⟨x1, rfl⟩⟩) | (go_at_call 72; refine (kind_c _ _).mono ?_; rintro e w1 ⟨rfl, ⟨x2, rfl⟩⟩))
    go_returns
    refine ⟨rfl, ?_⟩
    repeat' (first | exact Plus.refl _ | refine Plus.alloc ?_ _ | refine Plus.plus ?_ _ | refine Plus.drew ?_ | refine Plus.drewN ?_ _)
  · have h1 : vk k n = 2 := by unfold vk; rw [if_neg h]
    have h2 : vn k n = 0 := by unfold vn; rw [if_neg h]
    have h' : mayB k n = false := by simpa using h
    rw [h1, h2]; clear h1 h2 h
    go_enter Tryd.func59, Tryd.ntmps59
    go_wp2_with (first | (go_at_call 25; refine (rmay_c _ _ _).mono ?_; rintro e w1 ⟨rfl, ⟨x1, rfl⟩⟩) | (go_at_call 72; refine (kind_c _ _).mono ?_; rintro e w1 ⟨rfl, ⟨x2, rfl⟩⟩))
    go_returns
    refine ⟨rfl, ?_⟩
    repeat' (first | exact Plus.refl _ | refine Plus.alloc ?_ _ | refine Plus.plus ?_ _ | refine Plus.drew ?_ | refine Plus.drewN ?_ _)

theorem rgood_h {k n p q : Int} (h : Hid (vk k n = p ∧ vn k n = q)) (w : World) : Calls Tryd.prog 59 #[.agg #[.int .i64 k, .int .i64 n]] w fun e w' => e = .returned (.agg #[.int .i64 p, .int .i64 q]) ∧ Plus w w' := by
  obtain ⟨rfl, rfl⟩ := h.out
  exact rgood_c k n w

theorem of_c (n : Int) (w : World) : Calls Tryd.prog 50 #[.int .i64 n] w fun e w' => e = .returned (.tuple #[.agg #[.int .i64 (ofS n).k, .int .i64 (ofS n).n], .bool (ofS n).ok]) ∧ Plus w w' := by
  by_cases h : -9007199254740991 ≤ n ∧ n ≤ 9007199254740991
  · have h1 : ofS n = ⟨0, n, true⟩ := by unfold ofS; rw [if_pos h]
    have hm : mayB 0 n = true := by unfold mayB; simp; exact h
    rw [h1]; clear h1 h
    go_enter Tryd.func50, Tryd.ntmps50
    go_wp2_with (first | (go_at_call 24; refine (may_c _ _ _).mono ?_; rintro e w1 ⟨rfl, ⟨x1, rfl⟩⟩) | (go_at_call 58; refine (nan_c _).mono ?_; rintro e w1 ⟨rfl, ⟨x2, rfl⟩⟩))
    go_returns
    refine ⟨rfl, ?_⟩
    repeat' (first | exact Plus.refl _ | refine Plus.alloc ?_ _ | refine Plus.plus ?_ _ | refine Plus.drew ?_ | refine Plus.drewN ?_ _)
  · have h1 : ofS n = ⟨2, 0, false⟩ := by unfold ofS; rw [if_neg h]
    have hm : mayB 0 n = false := by unfold mayB; simp; omega
    rw [h1]; clear h1 h
    go_enter Tryd.func50, Tryd.ntmps50
    go_wp2_with (first | (go_at_call 24; refine (may_c _ _ _).mono ?_; rintro e w1 ⟨rfl, ⟨x1, rfl⟩⟩) | (go_at_call 58; refine (nan_c _).mono ?_; rintro e w1 ⟨rfl, ⟨x2, rfl⟩⟩))
    go_returns
    refine ⟨rfl, ?_⟩
    repeat' (first | exact Plus.refl _ | refine Plus.alloc ?_ _ | refine Plus.plus ?_ _ | refine Plus.drew ?_ | refine Plus.drewN ?_ _)

theorem rof_c (n : Int) (w : World) : Calls Tryd.prog 51 #[.int .i64 n] w fun e w' => e = .returned (.tuple #[.agg #[.int .i64 (ofS n).k, .int .i64 (ofS n).n], .bool (ofS n).ok]) ∧ Plus w w' := by
  by_cases h : -9007199254740991 ≤ n ∧ n ≤ 9007199254740991
  · have h1 : ofS n = ⟨0, n, true⟩ := by unfold ofS; rw [if_pos h]
    have ha : ¬ n < -9007199254740991 := by omega
    have hb : ¬ 9007199254740991 < n := by omega
    rw [h1]; clear h1 h
    go_enter Tryd.func51, Tryd.ntmps51
    go_wp2_with (go_at_call 62; refine (rNaN_c _).mono ?_; rintro e w1 ⟨rfl, ⟨x2, rfl⟩⟩)
    go_returns
    refine ⟨rfl, ?_⟩
    repeat' (first | exact Plus.refl _ | refine Plus.alloc ?_ _ | refine Plus.plus ?_ _ | refine Plus.drew ?_ | refine Plus.drewN ?_ _)
  · have h1 : ofS n = ⟨2, 0, false⟩ := by unfold ofS; rw [if_neg h]
    rw [h1]; clear h1
    go_enter Tryd.func51, Tryd.ntmps51
    go_wp2_with (go_at_call 62; refine (rNaN_c _).mono ?_; rintro e w1 ⟨rfl, ⟨x2, rfl⟩⟩)
    all_goals first | (exfalso; omega) | skip
    all_goals go_returns
    all_goals refine ⟨rfl, ?_⟩
    all_goals (repeat' (first | exact Plus.refl _ | refine Plus.alloc ?_ _ | refine Plus.plus ?_ _ | refine Plus.drew ?_ | refine Plus.drewN ?_ _))

theorem size_c (x : Int) (h1 : -9007199254740991 ≤ x) (h2 : x ≤ 9007199254740991) (w : World) : Calls Tryd.prog 79 #[.int .i64 x] w fun e w' => e = .returned (.int .i64 (absI x)) ∧ Plus w w' := by
  by_cases h : x < 0
  · have e : absI x = -x := by unfold absI; rw [if_pos h]
    rw [e]; clear e
    go_enter Tryd.func79, Tryd.ntmps79
    go_wp2
    go_ret
    exact ⟨rfl, Plus.refl _⟩
  · have e : absI x = x := by unfold absI; rw [if_neg h]
    rw [e]; clear e
    go_enter Tryd.func79, Tryd.ntmps79
    go_wp2
    go_ret
    exact ⟨rfl, Plus.refl _⟩

theorem place_c (k n : Int) (w : World) : Calls Tryd.prog 73 #[.agg #[.int .i64 k, .int .i64 n]] w fun e w' => e = .returned (.int .i64 (place k n)) ∧ Plus w w' := by
  by_cases h3 : k = 3
  · subst h3
    go_enter Tryd.func73, Tryd.ntmps73
    go_wp2
    go_ret
    exact ⟨rfl, (Plus.refl _).alloc _⟩
  · by_cases h4 : k = 4
    · subst h4
      go_enter Tryd.func73, Tryd.ntmps73
      go_wp2
      go_ret
      exact ⟨rfl, (Plus.refl _).alloc _⟩
    · have e : place k n = n := by unfold place; rw [if_neg h3, if_neg h4]
      have e3 := beq_f h3
      have e4 := beq_f h4
      rw [e]; clear e h3 h4
      go_enter Tryd.func73, Tryd.ntmps73
      go_wp2
      go_ret
      exact ⟨rfl, (Plus.refl _).alloc _⟩

theorem rrank_c (k n : Int) (w : World) : Calls Tryd.prog 74 #[.agg #[.int .i64 k, .int .i64 n]] w fun e w' => e = .returned (.int .i64 (place k n)) ∧ Plus w w' := by
  by_cases h3 : k = 3
  · subst h3
    go_enter Tryd.func74, Tryd.ntmps74
    go_wp2
    go_ret
    exact ⟨rfl, (Plus.refl _).alloc _⟩
  · by_cases h4 : k = 4
    · subst h4
      go_enter Tryd.func74, Tryd.ntmps74
      go_wp2
      go_ret
      exact ⟨rfl, (Plus.refl _).alloc _⟩
    · have e : place k n = n := by unfold place; rw [if_neg h3, if_neg h4]
      have e3 := beq_f h3
      have e4 := beq_f h4
      rw [e]; clear e h3 h4
      go_enter Tryd.func74, Tryd.ntmps74
      go_wp2
      go_ret
      exact ⟨rfl, (Plus.refl _).alloc _⟩

end Go.Proofs.YtdmodkmliagiiaaDoor
