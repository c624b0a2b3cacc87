/- The walk of NumOrders. -/
import Derived.Test.YtdmodkmliagiiaaDoorF
import Derived.Test.YtdmodkmliagiiaaDoorB6
import Derived.Test.YtdmodkmliagiiaaDoorB7
import Derived.Test.YtdmodkmliagiiaaDoorR6
import Derived.Test.YtdmodkmliagiiaaDoorR7
namespace Go.Proofs.YtdmodkmliagiiaaDoor
open Go.RowKit

set_option maxRecDepth 100000 in
set_option maxHeartbeats 4000000 in
theorem orders_w (k n l m : Int) (w : World) : Calls Tryd.prog 4 #[.agg #[.int .i64 k, .int .i64 n], .agg #[.int .i64 l, .int .i64 m]] w fun e w' => e = .returned (.bool true) ∧ Plus w w' := by
  go_enter Tryd.func4, Tryd.ntmps4
  go_wp2_with ((go_at_call 15; refine (first_c _).mono ?_; rintro e w1 ⟨rfl, ⟨x1, rfl⟩⟩))
  refine wp_region_plus (by kernel_rfl) (by kernel_rfl) ?_
  repeat (go_big_quiet_step ((first | (go_at_call 15; exact calls_plus (first_c _)) | (go_at_call 32; exact calls_plus (less_c _ _ _ _ _)) | (go_at_call 33; exact calls_plus (rless_c _ _ _ _ _)) | (go_at_call 34; exact calls_plus (equal_c _ _ _ _ _)) | (go_at_call 35; exact calls_plus (requal_c _ _ _ _ _)) | (go_at_call 36; exact calls_plus (same_c _ _ _ _ _)) | (go_at_call 37; exact calls_plus (rsame_c _ _ _ _ _)))))
  refine wpQuiet_nil ?_
  intro _ hw'
  obtain ⟨x3, rfl⟩ := hw'
  go_wp2_with fail
  go_returns
  refine ⟨?_, ?_⟩
  · simp
  · repeat' (first | exact Plus.refl _ | refine Plus.alloc ?_ _ | refine Plus.plus ?_ _ | refine Plus.drew ?_ | refine Plus.drewN ?_ _)
end Go.Proofs.YtdmodkmliagiiaaDoor
