/- Contracts of package num's functions. -/
import Derived.Test.YtaigkjffglbknaaDoorC5
import Derived.Test.YtaigkjffglbknaaDoorS
namespace Go.Proofs.YtaigkjffglbknaaDoor
open Go.RowKit

theorem beq_f {a b : Int} (h : a ≠ b) : (a == b) = false := by simpa using h

theorem nan_c  (w : World) : Calls Tryd.prog 64 #[] w fun e w' => e = .returned (.agg #[.int .i64 2, .int .i64 0]) ∧ Plus w w' := by
  go_enter Tryd.func64, Tryd.ntmps64
  go_wp2
  go_returns
  exact ⟨rfl, (Plus.refl _).alloc _⟩

theorem infinity_c (b : Bool) (w : World) : Calls Tryd.prog 65 #[.bool b] w fun e w' => e = .returned (.agg #[.int .i64 (infK b), .int .i64 0]) ∧ Plus w w' := by
  cases b
  · go_enter Tryd.func65, Tryd.ntmps65
    go_wp2
    go_returns
    exact ⟨rfl, (Plus.refl _).alloc _⟩
  · go_enter Tryd.func65, Tryd.ntmps65
    go_wp2
    go_returns
    exact ⟨rfl, (Plus.refl _).alloc _⟩

theorem may_c (k n : Int) (w : World) : Calls Tryd.prog 78 #[.agg #[.int .i64 k, .int .i64 n]] w fun e w' => e = .returned (.bool (mayB k n)) ∧ Plus w w' := by
  have hm : ∀ b : Bool, b = mayB k n → (Value.bool b) = .bool (mayB k n) := fun b h => by rw [h]
  have HM := Lib.hid hm; clear hm
  go_enter Tryd.func78, Tryd.ntmps78
  go_wp2
  all_goals go_ret
  all_goals refine ⟨congrArg Ending.returned (HM.out _ ?_), (Plus.refl _).alloc _⟩
  all_goals (unfold mayB; simp_all)
  all_goals omega

theorem of_c (n : Int) (w : World) : Calls Tryd.prog 68 #[.int .i64 n] w fun e w' => e = .returned (.tuple #[.agg #[.int .i64 (ofS n).k, .int .i64 (ofS n).n], .bool (ofS n).ok]) ∧ Plus w w' := by
  by_cases h : -9007199254740991 ≤ n ∧ n ≤ 9007199254740991
  · have h1 : ofS n = ⟨0, n, true⟩ := by unfold ofS; rw [if_pos h]
    have hm : mayB 0 n = true := by unfold mayB; simp; exact h
    rw [h1]; clear h1 h
    go_enter Tryd.func68, Tryd.ntmps68
    go_wp2_with (first | (go_at_call 78; refine (may_c _ _ _).mono ?_; rintro e w1 ⟨rfl, ⟨x1, rfl⟩⟩) | (go_at_call 64; refine (nan_c _).mono ?_; rintro e w1 ⟨rfl, ⟨x2, rfl⟩⟩))
    go_returns
    refine ⟨rfl, ?_⟩
    repeat' (first | exact Plus.refl _ | refine Plus.alloc ?_ _ | refine Plus.plus ?_ _ | refine Plus.drew ?_ | refine Plus.drewN ?_ _)
  · have h1 : ofS n = ⟨2, 0, false⟩ := by unfold ofS; rw [if_neg h]
    have hm : mayB 0 n = false := by unfold mayB; simp; omega
    rw [h1]; clear h1 h
    go_enter Tryd.func68, Tryd.ntmps68
    go_wp2_with (first | (go_at_call 78; refine (may_c _ _ _).mono ?_; rintro e w1 ⟨rfl, ⟨x1, rfl⟩⟩) | (go_at_call 64; refine (nan_c _).mono ?_; rintro e w1 ⟨rfl, ⟨x2, rfl⟩⟩))
    go_returns
    refine ⟨rfl, ?_⟩
    repeat' (first | exact Plus.refl _ | refine Plus.alloc ?_ _ | refine Plus.plus ?_ _ | refine Plus.drew ?_ | refine Plus.drewN ?_ _)

end Go.Proofs.YtaigkjffglbknaaDoor
