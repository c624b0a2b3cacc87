/- Contracts of the reference's small functions. -/
import Derived.Test.YtdmodkmliagiiaaDoorA
import Derived.Test.YtdmodkmliagiiaaDoorQ2
namespace Go.Proofs.YtdmodkmliagiiaaDoor
open Go.RowKit

theorem rsigned_c (b c : Bool) (w : World) : Calls Tryd.prog 70 #[.bool b, .bool c] w fun e w' => e = .returned (.agg #[.int .i64 (if b = true then infK c else zeroK c), .int .i64 0]) ∧ Plus w w' := by
  cases b <;> cases c
  all_goals go_enter Tryd.func70, Tryd.ntmps70
  all_goals go_wp2_with ((go_at_call 72; refine (kind_c _ _).mono ?_; rintro e w1 ⟨rfl, ⟨x1, rfl⟩⟩))
  all_goals go_returns
  all_goals refine ⟨rfl, ?_⟩
  all_goals (repeat' (first | exact Plus.refl _ | refine Plus.alloc ?_ _ | refine Plus.plus ?_ _ | refine Plus.drew ?_ | refine Plus.drewN ?_ _))
theorem numeq_c (k n l m : Int) (w : World) : Calls Tryd.prog 27 #[.agg #[.int .i64 k, .int .i64 n], .agg #[.int .i64 l, .int .i64 m]] w fun e w' => e = .returned (.bool (k == l && n == m)) ∧ Plus w w' := by
  by_cases h : k = l
  · subst h
    go_enter Tryd.func27, Tryd.ntmps27
    go_wp2
    go_returns
    refine ⟨by simp, ?_⟩
    repeat' (first | exact Plus.refl _ | refine Plus.alloc ?_ _ | refine Plus.plus ?_ _ | refine Plus.drew ?_ | refine Plus.drewN ?_ _)
  · have e := beq_f h
    rw [e]
    go_enter Tryd.func27, Tryd.ntmps27
    go_wp2
    go_returns
    refine ⟨by simp, ?_⟩
    repeat' (first | exact Plus.refl _ | refine Plus.alloc ?_ _ | refine Plus.plus ?_ _ | refine Plus.drew ?_ | refine Plus.drewN ?_ _)
theorem numeq_y (k n : Int) (w : World) : Calls Tryd.prog 27 #[.agg #[.int .i64 k, .int .i64 n], .agg #[.int .i64 k, .int .i64 n]] w fun e w' => e = .returned (.bool true) ∧ Plus w w' := by
  have h := numeq_c k n k n w
  simp only [beq_self_eq_true, Bool.and_true] at h
  exact h
theorem is_y (k n : Int) (b : Bool) (w : World) : Calls Tryd.prog 26 #[.agg #[.int .i64 k, .int .i64 n], .bool b, .agg #[.int .i64 k, .int .i64 n], .bool b] w fun e w' => e = .returned (.bool true) ∧ Plus w w' := by
  go_enter Tryd.func26, Tryd.ntmps26
  go_wp2_with ((go_at_call 27; refine (numeq_y _ _ _).mono ?_; rintro e w1 ⟨rfl, ⟨x1, rfl⟩⟩))
  go_returns
  refine ⟨by simp, ?_⟩
  repeat' (first | exact Plus.refl _ | refine Plus.alloc ?_ _ | refine Plus.plus ?_ _ | refine Plus.drew ?_ | refine Plus.drewN ?_ _)
end Go.Proofs.YtdmodkmliagiiaaDoor
