/- Contract of the reference's Sub. -/
import Derived.Test.YtdmodkmliagiiaaDoorR
import Derived.Test.YtdmodkmliagiiaaDoorR5
namespace Go.Proofs.YtdmodkmliagiiaaDoor
open Go.RowKit

set_option maxHeartbeats 1000000 in
theorem rsub_c (k n l m : Int) (w : World) : Calls Tryd.prog 19 #[.agg #[.int .i64 k, .int .i64 n], .agg #[.int .i64 l, .int .i64 m]] w fun e w' => e = .returned (.tuple #[.agg #[.int .i64 (subR k n l m).k, .int .i64 (subR k n l m).n], .bool (subR k n l m).ok]) ∧ Plus w w' := by
  go_enter Tryd.func19, Tryd.ntmps19
  go_wp2_with fail
  go_region_with (first | (go_at_call 31; refine (rneg_c _ _ _).mono ?_; rintro e w1 ⟨rfl, ⟨x1, rfl⟩⟩) | (go_at_call 17; refine (radd_c _ _ _ _ _).mono ?_; rintro e w1 ⟨rfl, ⟨x2, rfl⟩⟩))
  all_goals go_wp2_with fail
  all_goals go_returns
  all_goals refine ⟨rfl, ?_⟩
  all_goals (repeat' (first | exact Plus.refl _ | refine Plus.alloc ?_ _ | refine Plus.plus ?_ _ | refine Plus.drew ?_ | refine Plus.drewN ?_ _))
end Go.Proofs.YtdmodkmliagiiaaDoor
