/- Contracts of Less, Equal, Same (). -/
import Derived.Test.YtdmodkmliagiiaaDoorA
namespace Go.Proofs.YtdmodkmliagiiaaDoor
open Go.RowKit

set_option maxHeartbeats 4000000 in
theorem less_h (k n l m p q r s : Int) (h1 : Hid (vk k n = p ∧ vn k n = q)) (h2 : Hid (vk l m = r ∧ vn l m = s)) (hp : Hid (IsV p q)) (hr : Hid (IsV r s)) (w : World) :
    Calls Tryd.prog 32 #[.agg #[.int .i64 k, .int .i64 n], .agg #[.int .i64 l, .int .i64 m]] w fun e w' => e = .returned (.bool (lessS p q r s)) ∧ Plus w w' := by
  go_enter Tryd.func32, Tryd.ntmps32
  go_upto_region 1 with fail
  go_cut [] (fun wx => ∃ x1 x2, wx = plus (plus ((w.alloc (.cells #[.int .i64 p, .int .i64 q] 23)).alloc (.cells #[.int .i64 r, .int .i64 s] 23)) x1) x2)
  case first =>
    go_region_with (first | (go_at_call_of 55 (Value.agg #[.int .i64 k, .int .i64 n]); refine (valid_h h1 _).mono ?_; rintro e w1 ⟨rfl, ⟨x1, rfl⟩⟩) | (go_at_call_of 55 (Value.agg #[.int .i64 l, .int .i64 m]); refine (valid_h h2 _).mono ?_; rintro e w1 ⟨rfl, ⟨x1, rfl⟩⟩))
    all_goals (go_wp2_with fail; go_meet; exact ⟨_, _, rfl⟩)
  case rest =>
    obtain ⟨x1, x2, rfl⟩ := hcut
    have g1 := hp.out
    have g2 := hr.out
    clear h1 h2 hp hr
    have HE := Lib.hid (rfl : lessS p q r s = lessS p q r s)
    by_cases hp2 : p = 2
    · subst hp2
      go_wp2_with fail
      refine wp_region_plus (by kernel_rfl) (by kernel_rfl) ?_
      repeat (go_big_quiet_step ((first | (go_at_call 56; exact calls_plus (isNaN_c _ _ _)) | (go_at_call 73; exact calls_plus (place_c _ _ _)))))
      refine wpQuiet_nil ?_
      intro _ hw'
      obtain ⟨x3, rfl⟩ := hw'
      go_wp2_with fail
      go_returns
      refine ⟨?_, ?_⟩
      · simp [lessS]
      · repeat' (first | exact Plus.refl _ | refine Plus.alloc ?_ _ | refine Plus.plus ?_ _ | refine Plus.drew ?_ | refine Plus.drewN ?_ _)
    by_cases hr2 : r = 2
    · subst hr2
      have e2 := beq_f hp2
      go_wp2_with fail
      refine wp_region_plus (by kernel_rfl) (by kernel_rfl) ?_
      repeat (go_big_quiet_step ((first | (go_at_call 56; exact calls_plus (isNaN_c _ _ _)) | (go_at_call 73; exact calls_plus (place_c _ _ _)))))
      refine wpQuiet_nil ?_
      intro _ hw'
      obtain ⟨x3, rfl⟩ := hw'
      go_wp2_with fail
      go_returns
      refine ⟨?_, ?_⟩
      · simp [lessS, e2]
      · repeat' (first | exact Plus.refl _ | refine Plus.alloc ?_ _ | refine Plus.plus ?_ _ | refine Plus.drew ?_ | refine Plus.drewN ?_ _)
    · have e2 := beq_f hp2
      have e3 := beq_f hr2
      go_wp2_with fail
      refine wp_region_plus (by kernel_rfl) (by kernel_rfl) ?_
      repeat (go_big_quiet_step ((first | (go_at_call 56; exact calls_plus (isNaN_c _ _ _)) | (go_at_call 73; exact calls_plus (place_c _ _ _)))))
      refine wpQuiet_nil ?_
      intro _ hw'
      obtain ⟨x3, rfl⟩ := hw'
      go_wp2_with fail
      go_returns
      refine ⟨?_, ?_⟩
      · simp [lessS, e2, e3]
      · repeat' (first | exact Plus.refl _ | refine Plus.alloc ?_ _ | refine Plus.plus ?_ _ | refine Plus.drew ?_ | refine Plus.drewN ?_ _)

theorem less_c (k n l m : Int) (w : World) : Calls Tryd.prog 32 #[.agg #[.int .i64 k, .int .i64 n], .agg #[.int .i64 l, .int .i64 m]] w fun e w' => e = .returned (.bool (lessR k n l m)) ∧ Plus w w' :=
  less_h k n l m _ _ _ _ ⟨rfl, rfl⟩ ⟨rfl, rfl⟩ (isV_v k n) (isV_v l m) w
set_option maxHeartbeats 4000000 in
theorem equal_h (k n l m p q r s : Int) (h1 : Hid (vk k n = p ∧ vn k n = q)) (h2 : Hid (vk l m = r ∧ vn l m = s)) (hp : Hid (IsV p q)) (hr : Hid (IsV r s)) (w : World) :
    Calls Tryd.prog 34 #[.agg #[.int .i64 k, .int .i64 n], .agg #[.int .i64 l, .int .i64 m]] w fun e w' => e = .returned (.bool (equalS p q r s)) ∧ Plus w w' := by
  go_enter Tryd.func34, Tryd.ntmps34
  go_upto_region 1 with fail
  go_cut [] (fun wx => ∃ x1 x2, wx = plus (plus ((w.alloc (.cells #[.int .i64 p, .int .i64 q] 23)).alloc (.cells #[.int .i64 r, .int .i64 s] 23)) x1) x2)
  case first =>
    go_region_with (first | (go_at_call_of 55 (Value.agg #[.int .i64 k, .int .i64 n]); refine (valid_h h1 _).mono ?_; rintro e w1 ⟨rfl, ⟨x1, rfl⟩⟩) | (go_at_call_of 55 (Value.agg #[.int .i64 l, .int .i64 m]); refine (valid_h h2 _).mono ?_; rintro e w1 ⟨rfl, ⟨x1, rfl⟩⟩))
    all_goals (go_wp2_with fail; go_meet; exact ⟨_, _, rfl⟩)
  case rest =>
    obtain ⟨x1, x2, rfl⟩ := hcut
    have g1 := hp.out
    have g2 := hr.out
    clear h1 h2 hp hr
    have HE := Lib.hid (rfl : equalS p q r s = equalS p q r s)
    by_cases hp2 : p = 2
    · subst hp2
      go_wp2_with fail
      refine wp_region_plus (by kernel_rfl) (by kernel_rfl) ?_
      repeat (go_big_quiet_step ((first | (go_at_call 56; exact calls_plus (isNaN_c _ _ _)) | (go_at_call 73; exact calls_plus (place_c _ _ _)))))
      refine wpQuiet_nil ?_
      intro _ hw'
      obtain ⟨x3, rfl⟩ := hw'
      go_wp2_with fail
      go_returns
      refine ⟨?_, ?_⟩
      · simp [equalS]
      · repeat' (first | exact Plus.refl _ | refine Plus.alloc ?_ _ | refine Plus.plus ?_ _ | refine Plus.drew ?_ | refine Plus.drewN ?_ _)
    by_cases hr2 : r = 2
    · subst hr2
      have e2 := beq_f hp2
      go_wp2_with fail
      refine wp_region_plus (by kernel_rfl) (by kernel_rfl) ?_
      repeat (go_big_quiet_step ((first | (go_at_call 56; exact calls_plus (isNaN_c _ _ _)) | (go_at_call 73; exact calls_plus (place_c _ _ _)))))
      refine wpQuiet_nil ?_
      intro _ hw'
      obtain ⟨x3, rfl⟩ := hw'
      go_wp2_with fail
      go_returns
      refine ⟨?_, ?_⟩
      · simp [equalS, e2]
      · repeat' (first | exact Plus.refl _ | refine Plus.alloc ?_ _ | refine Plus.plus ?_ _ | refine Plus.drew ?_ | refine Plus.drewN ?_ _)
    · have e2 := beq_f hp2
      have e3 := beq_f hr2
      go_wp2_with fail
      refine wp_region_plus (by kernel_rfl) (by kernel_rfl) ?_
      repeat (go_big_quiet_step ((first | (go_at_call 56; exact calls_plus (isNaN_c _ _ _)) | (go_at_call 73; exact calls_plus (place_c _ _ _)))))
      refine wpQuiet_nil ?_
      intro _ hw'
      obtain ⟨x3, rfl⟩ := hw'
      go_wp2_with fail
      go_returns
      refine ⟨?_, ?_⟩
      · simp [equalS, e2, e3]
      · repeat' (first | exact Plus.refl _ | refine Plus.alloc ?_ _ | refine Plus.plus ?_ _ | refine Plus.drew ?_ | refine Plus.drewN ?_ _)

theorem equal_c (k n l m : Int) (w : World) : Calls Tryd.prog 34 #[.agg #[.int .i64 k, .int .i64 n], .agg #[.int .i64 l, .int .i64 m]] w fun e w' => e = .returned (.bool (equalR k n l m)) ∧ Plus w w' :=
  equal_h k n l m _ _ _ _ ⟨rfl, rfl⟩ ⟨rfl, rfl⟩ (isV_v k n) (isV_v l m) w
end Go.Proofs.YtdmodkmliagiiaaDoor
