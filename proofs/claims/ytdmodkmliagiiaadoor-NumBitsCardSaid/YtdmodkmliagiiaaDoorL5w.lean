/- The walk of NumBits. -/
import Derived.Test.YtdmodkmliagiiaaDoorV
import Derived.Test.YtdmodkmliagiiaaDoorR9
namespace Go.Proofs.YtdmodkmliagiiaaDoor
open Go.RowKit

set_option maxRecDepth 100000 in
set_option maxHeartbeats 4000000 in
theorem bits_w (op k n l m : Int) (w : World) : Calls Tryd.prog 5 #[.int .i64 op, .agg #[.int .i64 k, .int .i64 n], .agg #[.int .i64 l, .int .i64 m]] w fun e w' => e = .returned (.bool true) ∧ Plus w w' := by
  go_enter Tryd.func5, Tryd.ntmps5
  go_wp2_with (first | (go_at_call 15; ((with_reducible refine (first_c _).mono ?_); rintro e w1 ⟨rfl, ⟨x1, rfl⟩⟩)) | (go_at_call 38; ((with_reducible refine (index_c _ _ _).mono ?_); rintro e w1 ⟨rfl, ⟨x1, rfl⟩⟩)) | (go_at_call 39; ((with_reducible refine (rindex_c _ _ _).mono ?_); rintro e w1 ⟨rfl, ⟨x1, rfl⟩⟩)))
  refine wp_region_plus (by kernel_rfl) (by kernel_rfl) ?_
  repeat (go_big_quiet_step ((first | (go_at_call 15; with_reducible exact calls_plus (first_c _)) | (go_at_call 40; with_reducible exact calls_plus (i32_c _ _ _)) | (go_at_call 41; with_reducible exact calls_plus (ri32_c _ _ _)) | (go_at_call 42; with_reducible exact calls_plus (u32_c _ _ _)) | (go_at_call 43; with_reducible exact calls_plus (ru32_c _ _ _)) | (go_at_call 44; with_reducible exact calls_plus (whole_c _ _ _)) | (go_at_call 45; with_reducible exact calls_plus (rwhole_c _ _ _)) | (go_at_call 27; with_reducible exact calls_plus (numeq_y _ _ _)) | (go_at_call 46; with_reducible exact calls_plus (bit_c _ _ _ _ _ _)) | (go_at_call 47; with_reducible exact calls_plus (rbit_c _ _ _ _ _ _)))))
  refine wpQuiet_nil ?_
  intro _ hw'
  obtain ⟨x9, rfl⟩ := hw'
  go_wp2_with fail
  go_returns
  refine ⟨by simp, ?_⟩
  repeat' (first | exact Plus.refl _ | refine Plus.alloc ?_ _ | refine Plus.plus ?_ _ | refine Plus.drew ?_ | refine Plus.drewN ?_ _)
end Go.Proofs.YtdmodkmliagiiaaDoor
