/- Contract of num.Same. -/
import Derived.Test.YtdmodkmliagiiaaDoorA
namespace Go.Proofs.YtdmodkmliagiiaaDoor
open Go.RowKit


set_option maxHeartbeats 1000000 in
theorem same_h (k n l m p q r s : Int) (h1 : Hid (vk k n = p ∧ vn k n = q)) (h2 : Hid (vk l m = r ∧ vn l m = s)) (w : World) : Calls Tryd.prog 36 #[.agg #[.int .i64 k, .int .i64 n], .agg #[.int .i64 l, .int .i64 m]] w fun e w' => e = .returned (.bool (p == r && q == s)) ∧ Plus w w' := by
  by_cases hpr : p = r
  · subst hpr
    by_cases hqs : q = s
    · subst hqs
      go_enter Tryd.func36, Tryd.ntmps36
      go_wp2_with fail
      refine wp_region_plus (by kernel_rfl) (by kernel_rfl) ?_
      repeat (go_big_quiet_step ((first | (go_at_call_of 55 (Value.agg #[.int .i64 k, .int .i64 n]); exact calls_plus (valid_h h1 _)) | (go_at_call_of 55 (Value.agg #[.int .i64 l, .int .i64 m]); exact calls_plus (valid_h h2 _)))))
      refine wpQuiet_nil ?_
      intro _ hw'
      obtain ⟨x3, rfl⟩ := hw'
      go_wp2_with fail
      go_returns
      refine ⟨?_, ?_⟩
      · simp
      · repeat' (first | exact Plus.refl _ | refine Plus.alloc ?_ _ | refine Plus.plus ?_ _ | refine Plus.drew ?_ | refine Plus.drewN ?_ _)
    · have e2 := beq_f hqs
      go_enter Tryd.func36, Tryd.ntmps36
      go_wp2_with fail
      refine wp_region_plus (by kernel_rfl) (by kernel_rfl) ?_
      repeat (go_big_quiet_step ((first | (go_at_call_of 55 (Value.agg #[.int .i64 k, .int .i64 n]); exact calls_plus (valid_h h1 _)) | (go_at_call_of 55 (Value.agg #[.int .i64 l, .int .i64 m]); exact calls_plus (valid_h h2 _)))))
      refine wpQuiet_nil ?_
      intro _ hw'
      obtain ⟨x3, rfl⟩ := hw'
      go_wp2_with fail
      go_returns
      refine ⟨?_, ?_⟩
      · simp [e2]
      · repeat' (first | exact Plus.refl _ | refine Plus.alloc ?_ _ | refine Plus.plus ?_ _ | refine Plus.drew ?_ | refine Plus.drewN ?_ _)
  · have e1 := beq_f hpr
    go_enter Tryd.func36, Tryd.ntmps36
    go_wp2_with fail
    refine wp_region_plus (by kernel_rfl) (by kernel_rfl) ?_
    repeat (go_big_quiet_step ((first | (go_at_call_of 55 (Value.agg #[.int .i64 k, .int .i64 n]); exact calls_plus (valid_h h1 _)) | (go_at_call_of 55 (Value.agg #[.int .i64 l, .int .i64 m]); exact calls_plus (valid_h h2 _)))))
    refine wpQuiet_nil ?_
    intro _ hw'
    obtain ⟨x3, rfl⟩ := hw'
    go_wp2_with fail
    go_returns
    refine ⟨?_, ?_⟩
    · simp [e1]
    · repeat' (first | exact Plus.refl _ | refine Plus.alloc ?_ _ | refine Plus.plus ?_ _ | refine Plus.drew ?_ | refine Plus.drewN ?_ _)

theorem same_c (k n l m : Int) (w : World) : Calls Tryd.prog 36 #[.agg #[.int .i64 k, .int .i64 n], .agg #[.int .i64 l, .int .i64 m]] w fun e w' => e = .returned (.bool (sameR k n l m)) ∧ Plus w w' :=
  same_h k n l m _ _ _ _ ⟨rfl, rfl⟩ ⟨rfl, rfl⟩ w
end Go.Proofs.YtdmodkmliagiiaaDoor
