/- The walk of NumReckons. -/
import Derived.Test.YtdmodkmliagiiaaDoorV
import Derived.Test.YtdmodkmliagiiaaDoorR
import Derived.Test.YtdmodkmliagiiaaDoorR2
import Derived.Test.YtdmodkmliagiiaaDoorR3
import Derived.Test.YtdmodkmliagiiaaDoorR4
import Derived.Test.YtdmodkmliagiiaaDoorR5
import Derived.Test.YtdmodkmliagiiaaDoorR8
namespace Go.Proofs.YtdmodkmliagiiaaDoor
open Go.RowKit

attribute [local go_sem] plus_add
set_option maxRecDepth 100000 in
set_option maxHeartbeats 4000000 in
theorem reckons_w (k n l m : Int) (w : World) : Calls Tryd.prog 3 #[.agg #[.int .i64 k, .int .i64 n], .agg #[.int .i64 l, .int .i64 m]] w fun e w' => e = .returned (.bool true) ∧ Plus w w' := by
  go_enter Tryd.func3, Tryd.ntmps3
  go_wp2_with (first | (go_at_call 15; ((with_reducible refine (first_c _).mono ?_); rintro e w1 ⟨rfl, ⟨x1, rfl⟩⟩)) | (go_at_call 16; ((with_reducible refine (add_c _ _ _ _ _).mono ?_); rintro e w1 ⟨rfl, ⟨x1, rfl⟩⟩)) | (go_at_call 17; ((with_reducible refine (radd_c _ _ _ _ _).mono ?_); rintro e w1 ⟨rfl, ⟨x1, rfl⟩⟩)) | (go_at_call 18; ((with_reducible refine (sub_c _ _ _ _ _).mono ?_); rintro e w1 ⟨rfl, ⟨x1, rfl⟩⟩)) | (go_at_call 19; ((with_reducible refine (rsub_c _ _ _ _ _).mono ?_); rintro e w1 ⟨rfl, ⟨x1, rfl⟩⟩)) | (go_at_call 20; ((with_reducible refine (mul_c _ _ _ _ _).mono ?_); rintro e w1 ⟨rfl, ⟨x1, rfl⟩⟩)) | (go_at_call 21; ((with_reducible refine (rmul_c _ _ _ _ _).mono ?_); rintro e w1 ⟨rfl, ⟨x1, rfl⟩⟩)) | (go_at_call 22; ((with_reducible refine (div_c _ _ _ _ _).mono ?_); rintro e w1 ⟨rfl, ⟨x1, rfl⟩⟩)) | (go_at_call 23; ((with_reducible refine (rdiv_c _ _ _ _ _).mono ?_); rintro e w1 ⟨rfl, ⟨x1, rfl⟩⟩)))
  refine wp_region_plus (by kernel_rfl) (by kernel_rfl) ?_
  repeat (go_big_quiet_step ((first | (go_at_call 15; with_reducible exact calls_plus (first_c _)) | (go_at_call 24; with_reducible exact calls_plus (may_c _ _ _)) | (go_at_call 25; with_reducible exact calls_plus (rmay_c _ _ _)) | (go_at_call 26; with_reducible exact calls_plus (is_y _ _ _ _)) | (go_at_call 27; with_reducible exact calls_plus (numeq_y _ _ _)) | (go_at_call 28; with_reducible exact calls_plus (rem_c _ _ _ _ _)) | (go_at_call 29; with_reducible exact calls_plus (rrem_c _ _ _ _ _)) | (go_at_call 30; with_reducible exact calls_plus (neg_c _ _ _)) | (go_at_call 31; with_reducible exact calls_plus (rneg_c _ _ _)))))
  refine wpQuiet_nil ?_
  intro _ hw'
  obtain ⟨x9, rfl⟩ := hw'
  go_wp2_with fail
  go_returns
  refine ⟨by simp, ?_⟩
  repeat' (first | exact Plus.refl _ | refine Plus.alloc ?_ _ | refine Plus.plus ?_ _ | refine Plus.drew ?_ | refine Plus.drewN ?_ _)
end Go.Proofs.YtdmodkmliagiiaaDoor
