/- The walk of NumCompares. -/
import Derived.Test.YtdmodkmliagiiaaDoorV
import Derived.Test.YtdmodkmliagiiaaDoorM1
namespace Go.Proofs.YtdmodkmliagiiaaDoor
open Go.RowKit

theorem same_y (k n : Int) (w : World) : Calls Tryd.prog 36 #[.agg #[.int .i64 k, .int .i64 n], .agg #[.int .i64 k, .int .i64 n]] w fun e w' => e = .returned (.bool true) ∧ Plus w w' := same_v (Lib.hid (by simp [sameR])) w
set_option maxRecDepth 100000 in
set_option maxHeartbeats 2000000 in
theorem compares_1 (k n l m : Int) (hl : Hid (lessR k n l m = true)) (hg : Hid (lessR l m k n = false)) (he : Hid (equalR k n l m = false)) (hea : Hid (equalR k n k n = true)) (heb : Hid (equalR l m l m = true)) (hs : Hid (sameR k n l m = false)) (ht : Hid (sameR l m k n = false)) (w : World) :
    Calls Tryd.prog 14 #[.agg #[.int .i64 k, .int .i64 n], .agg #[.int .i64 l, .int .i64 m]] w fun e w' => e = .returned (.bool true) ∧ Plus w w' := by
  go_enter Tryd.func14, Tryd.ntmps14
  go_wp2_with (first | (go_at_call 15; ((with_reducible refine (first_c _).mono ?_); rintro e w1 ⟨rfl, ⟨x1, rfl⟩⟩)))
  refine wp_region_plus (by kernel_rfl) (by kernel_rfl) ?_
  repeat (go_big_quiet_step ((first | (go_at_call 32; with_reducible exact calls_plus (less_v hl _)) | (go_at_call 32; with_reducible exact calls_plus (less_v hg _)) | (go_at_call 34; with_reducible exact calls_plus (equal_v he _)))))
  refine wpQuiet_nil ?_
  intro _ hw'
  obtain ⟨x9, rfl⟩ := hw'
  go_wp2_with (first | (go_at_call 34; ((with_reducible refine (equal_v hea _).mono ?_); rintro e w1 ⟨rfl, ⟨x1, rfl⟩⟩)) | (go_at_call 34; ((with_reducible refine (equal_v heb _).mono ?_); rintro e w1 ⟨rfl, ⟨x1, rfl⟩⟩)) | (go_at_call 36; ((with_reducible refine (same_v hs _).mono ?_); rintro e w1 ⟨rfl, ⟨x1, rfl⟩⟩)))
  refine wp_region_plus (by kernel_rfl) (by kernel_rfl) ?_
  repeat (go_big_quiet_step ((first | (go_at_call 15; with_reducible exact calls_plus (first_c _)) | (go_at_call_of 36 (Value.agg #[.int .i64 k, .int .i64 n]); with_reducible exact calls_plus (same_y k n _)) | (go_at_call_of 36 (Value.agg #[.int .i64 l, .int .i64 m]); with_reducible exact calls_plus (same_v ht _)) | (go_at_call 54; with_reducible exact calls_plus (w_c _ _)))))
  refine wpQuiet_nil ?_
  intro _ hw'
  obtain ⟨x8, rfl⟩ := hw'
  go_wp2_with fail
  go_returns
  refine ⟨by simp, ?_⟩
  repeat' (first | exact Plus.refl _ | refine Plus.alloc ?_ _ | refine Plus.plus ?_ _ | refine Plus.drew ?_ | refine Plus.drewN ?_ _)
set_option maxRecDepth 100000 in
set_option maxHeartbeats 2000000 in
theorem compares_2 (k n l m : Int) (hl : Hid (lessR k n l m = false)) (hg : Hid (lessR l m k n = true)) (he : Hid (equalR k n l m = false)) (hea : Hid (equalR k n k n = true)) (heb : Hid (equalR l m l m = true)) (hs : Hid (sameR k n l m = false)) (ht : Hid (sameR l m k n = false)) (w : World) :
    Calls Tryd.prog 14 #[.agg #[.int .i64 k, .int .i64 n], .agg #[.int .i64 l, .int .i64 m]] w fun e w' => e = .returned (.bool true) ∧ Plus w w' := by
  go_enter Tryd.func14, Tryd.ntmps14
  go_wp2_with (first | (go_at_call 15; ((with_reducible refine (first_c _).mono ?_); rintro e w1 ⟨rfl, ⟨x1, rfl⟩⟩)))
  refine wp_region_plus (by kernel_rfl) (by kernel_rfl) ?_
  repeat (go_big_quiet_step ((first | (go_at_call 32; with_reducible exact calls_plus (less_v hl _)) | (go_at_call 32; with_reducible exact calls_plus (less_v hg _)) | (go_at_call 34; with_reducible exact calls_plus (equal_v he _)))))
  refine wpQuiet_nil ?_
  intro _ hw'
  obtain ⟨x9, rfl⟩ := hw'
  go_wp2_with (first | (go_at_call 34; ((with_reducible refine (equal_v hea _).mono ?_); rintro e w1 ⟨rfl, ⟨x1, rfl⟩⟩)) | (go_at_call 34; ((with_reducible refine (equal_v heb _).mono ?_); rintro e w1 ⟨rfl, ⟨x1, rfl⟩⟩)) | (go_at_call 36; ((with_reducible refine (same_v hs _).mono ?_); rintro e w1 ⟨rfl, ⟨x1, rfl⟩⟩)))
  refine wp_region_plus (by kernel_rfl) (by kernel_rfl) ?_
  repeat (go_big_quiet_step ((first | (go_at_call 15; with_reducible exact calls_plus (first_c _)) | (go_at_call_of 36 (Value.agg #[.int .i64 k, .int .i64 n]); with_reducible exact calls_plus (same_y k n _)) | (go_at_call_of 36 (Value.agg #[.int .i64 l, .int .i64 m]); with_reducible exact calls_plus (same_v ht _)) | (go_at_call 54; with_reducible exact calls_plus (w_c _ _)))))
  refine wpQuiet_nil ?_
  intro _ hw'
  obtain ⟨x8, rfl⟩ := hw'
  go_wp2_with fail
  go_returns
  refine ⟨by simp, ?_⟩
  repeat' (first | exact Plus.refl _ | refine Plus.alloc ?_ _ | refine Plus.plus ?_ _ | refine Plus.drew ?_ | refine Plus.drewN ?_ _)
set_option maxRecDepth 100000 in
set_option maxHeartbeats 2000000 in
theorem compares_3 (k n l m : Int) (hl : Hid (lessR k n l m = false)) (hg : Hid (lessR l m k n = false)) (he : Hid (equalR k n l m = true)) (hea : Hid (equalR k n k n = true)) (heb : Hid (equalR l m l m = true)) (hs : Hid (sameR k n l m = true)) (ht : Hid (sameR l m k n = true)) (w : World) :
    Calls Tryd.prog 14 #[.agg #[.int .i64 k, .int .i64 n], .agg #[.int .i64 l, .int .i64 m]] w fun e w' => e = .returned (.bool true) ∧ Plus w w' := by
  go_enter Tryd.func14, Tryd.ntmps14
  go_wp2_with (first | (go_at_call 15; ((with_reducible refine (first_c _).mono ?_); rintro e w1 ⟨rfl, ⟨x1, rfl⟩⟩)))
  refine wp_region_plus (by kernel_rfl) (by kernel_rfl) ?_
  repeat (go_big_quiet_step ((first | (go_at_call 32; with_reducible exact calls_plus (less_v hl _)) | (go_at_call 32; with_reducible exact calls_plus (less_v hg _)) | (go_at_call 34; with_reducible exact calls_plus (equal_v he _)))))
  refine wpQuiet_nil ?_
  intro _ hw'
  obtain ⟨x9, rfl⟩ := hw'
  go_wp2_with (first | (go_at_call 34; ((with_reducible refine (equal_v hea _).mono ?_); rintro e w1 ⟨rfl, ⟨x1, rfl⟩⟩)) | (go_at_call 34; ((with_reducible refine (equal_v heb _).mono ?_); rintro e w1 ⟨rfl, ⟨x1, rfl⟩⟩)) | (go_at_call 36; ((with_reducible refine (same_v hs _).mono ?_); rintro e w1 ⟨rfl, ⟨x1, rfl⟩⟩)))
  refine wp_region_plus (by kernel_rfl) (by kernel_rfl) ?_
  repeat (go_big_quiet_step ((first | (go_at_call 15; with_reducible exact calls_plus (first_c _)) | (go_at_call_of 36 (Value.agg #[.int .i64 k, .int .i64 n]); with_reducible exact calls_plus (same_y k n _)) | (go_at_call_of 36 (Value.agg #[.int .i64 l, .int .i64 m]); with_reducible exact calls_plus (same_v ht _)) | (go_at_call 54; with_reducible exact calls_plus (w_c _ _)))))
  refine wpQuiet_nil ?_
  intro _ hw'
  obtain ⟨x8, rfl⟩ := hw'
  go_wp2_with fail
  go_returns
  refine ⟨by simp, ?_⟩
  repeat' (first | exact Plus.refl _ | refine Plus.alloc ?_ _ | refine Plus.plus ?_ _ | refine Plus.drew ?_ | refine Plus.drewN ?_ _)
set_option maxRecDepth 100000 in
set_option maxHeartbeats 2000000 in
theorem compares_4 (k n l m : Int) (hl : Hid (lessR k n l m = false)) (hg : Hid (lessR l m k n = false)) (he : Hid (equalR k n l m = true)) (hea : Hid (equalR k n k n = true)) (heb : Hid (equalR l m l m = true)) (hs : Hid (sameR k n l m = false)) (ht : Hid (sameR l m k n = false)) (hz : Hid (equalR k n 0 0 = true)) (w : World) :
    Calls Tryd.prog 14 #[.agg #[.int .i64 k, .int .i64 n], .agg #[.int .i64 l, .int .i64 m]] w fun e w' => e = .returned (.bool true) ∧ Plus w w' := by
  go_enter Tryd.func14, Tryd.ntmps14
  go_wp2_with (first | (go_at_call 15; ((with_reducible refine (first_c _).mono ?_); rintro e w1 ⟨rfl, ⟨x1, rfl⟩⟩)))
  refine wp_region_plus (by kernel_rfl) (by kernel_rfl) ?_
  repeat (go_big_quiet_step ((first | (go_at_call 32; with_reducible exact calls_plus (less_v hl _)) | (go_at_call 32; with_reducible exact calls_plus (less_v hg _)) | (go_at_call 34; with_reducible exact calls_plus (equal_v he _)))))
  refine wpQuiet_nil ?_
  intro _ hw'
  obtain ⟨x9, rfl⟩ := hw'
  go_wp2_with (first | (go_at_call 34; ((with_reducible refine (equal_v hea _).mono ?_); rintro e w1 ⟨rfl, ⟨x1, rfl⟩⟩)) | (go_at_call 34; ((with_reducible refine (equal_v heb _).mono ?_); rintro e w1 ⟨rfl, ⟨x1, rfl⟩⟩)) | (go_at_call 36; ((with_reducible refine (same_v hs _).mono ?_); rintro e w1 ⟨rfl, ⟨x1, rfl⟩⟩)))
  refine wp_region_plus (by kernel_rfl) (by kernel_rfl) ?_
  repeat (go_big_quiet_step ((first | (go_at_call 15; with_reducible exact calls_plus (first_c _)) | (go_at_call_of 36 (Value.agg #[.int .i64 k, .int .i64 n]); with_reducible exact calls_plus (same_y k n _)) | (go_at_call_of 36 (Value.agg #[.int .i64 l, .int .i64 m]); with_reducible exact calls_plus (same_v ht _)) | (go_at_call 54; with_reducible exact calls_plus (w_c _ _)) | (go_at_call 34; with_reducible exact calls_plus (equal_v hz _)))))
  refine wpQuiet_nil ?_
  intro _ hw'
  obtain ⟨x8, rfl⟩ := hw'
  go_wp2_with fail
  go_returns
  refine ⟨by simp, ?_⟩
  repeat' (first | exact Plus.refl _ | refine Plus.alloc ?_ _ | refine Plus.plus ?_ _ | refine Plus.drew ?_ | refine Plus.drewN ?_ _)
set_option maxRecDepth 100000 in
set_option maxHeartbeats 2000000 in
theorem compares_5 (k n l m : Int) (hl : Hid (lessR k n l m = false)) (hg : Hid (lessR l m k n = false)) (he : Hid (equalR k n l m = false)) (hea : Hid (equalR k n k n = false)) (hs : Hid (sameR k n l m = true)) (ht : Hid (sameR l m k n = true)) (w : World) :
    Calls Tryd.prog 14 #[.agg #[.int .i64 k, .int .i64 n], .agg #[.int .i64 l, .int .i64 m]] w fun e w' => e = .returned (.bool true) ∧ Plus w w' := by
  go_enter Tryd.func14, Tryd.ntmps14
  go_wp2_with (first | (go_at_call 15; ((with_reducible refine (first_c _).mono ?_); rintro e w1 ⟨rfl, ⟨x1, rfl⟩⟩)))
  refine wp_region_plus (by kernel_rfl) (by kernel_rfl) ?_
  repeat (go_big_quiet_step ((first | (go_at_call 32; with_reducible exact calls_plus (less_v hl _)) | (go_at_call 32; with_reducible exact calls_plus (less_v hg _)) | (go_at_call 34; with_reducible exact calls_plus (equal_v he _)))))
  refine wpQuiet_nil ?_
  intro _ hw'
  obtain ⟨x9, rfl⟩ := hw'
  go_wp2_with (first | (go_at_call 34; ((with_reducible refine (equal_v hea _).mono ?_); rintro e w1 ⟨rfl, ⟨x1, rfl⟩⟩)) | (go_at_call 36; ((with_reducible refine (same_v hs _).mono ?_); rintro e w1 ⟨rfl, ⟨x1, rfl⟩⟩)))
  refine wp_region_plus (by kernel_rfl) (by kernel_rfl) ?_
  repeat (go_big_quiet_step ((first | (go_at_call 15; with_reducible exact calls_plus (first_c _)) | (go_at_call_of 36 (Value.agg #[.int .i64 k, .int .i64 n]); with_reducible exact calls_plus (same_y k n _)) | (go_at_call_of 36 (Value.agg #[.int .i64 l, .int .i64 m]); with_reducible exact calls_plus (same_v ht _)) | (go_at_call 54; with_reducible exact calls_plus (w_c _ _)))))
  refine wpQuiet_nil ?_
  intro _ hw'
  obtain ⟨x8, rfl⟩ := hw'
  go_wp2_with fail
  go_returns
  refine ⟨by simp, ?_⟩
  repeat' (first | exact Plus.refl _ | refine Plus.alloc ?_ _ | refine Plus.plus ?_ _ | refine Plus.drew ?_ | refine Plus.drewN ?_ _)
set_option maxRecDepth 100000 in
set_option maxHeartbeats 2000000 in
theorem compares_6 (k n l m : Int) (hl : Hid (lessR k n l m = false)) (hg : Hid (lessR l m k n = false)) (he : Hid (equalR k n l m = false)) (hea : Hid (equalR k n k n = false)) (hs : Hid (sameR k n l m = false)) (ht : Hid (sameR l m k n = false)) (w : World) :
    Calls Tryd.prog 14 #[.agg #[.int .i64 k, .int .i64 n], .agg #[.int .i64 l, .int .i64 m]] w fun e w' => e = .returned (.bool true) ∧ Plus w w' := by
  go_enter Tryd.func14, Tryd.ntmps14
  go_wp2_with (first | (go_at_call 15; ((with_reducible refine (first_c _).mono ?_); rintro e w1 ⟨rfl, ⟨x1, rfl⟩⟩)))
  refine wp_region_plus (by kernel_rfl) (by kernel_rfl) ?_
  repeat (go_big_quiet_step ((first | (go_at_call 32; with_reducible exact calls_plus (less_v hl _)) | (go_at_call 32; with_reducible exact calls_plus (less_v hg _)) | (go_at_call 34; with_reducible exact calls_plus (equal_v he _)))))
  refine wpQuiet_nil ?_
  intro _ hw'
  obtain ⟨x9, rfl⟩ := hw'
  go_wp2_with (first | (go_at_call 34; ((with_reducible refine (equal_v hea _).mono ?_); rintro e w1 ⟨rfl, ⟨x1, rfl⟩⟩)) | (go_at_call 36; ((with_reducible refine (same_v hs _).mono ?_); rintro e w1 ⟨rfl, ⟨x1, rfl⟩⟩)))
  refine wp_region_plus (by kernel_rfl) (by kernel_rfl) ?_
  repeat (go_big_quiet_step ((first | (go_at_call 15; with_reducible exact calls_plus (first_c _)) | (go_at_call_of 36 (Value.agg #[.int .i64 k, .int .i64 n]); with_reducible exact calls_plus (same_y k n _)) | (go_at_call_of 36 (Value.agg #[.int .i64 l, .int .i64 m]); with_reducible exact calls_plus (same_v ht _)) | (go_at_call 54; with_reducible exact calls_plus (w_c _ _)))))
  refine wpQuiet_nil ?_
  intro _ hw'
  obtain ⟨x8, rfl⟩ := hw'
  go_wp2_with fail
  go_returns
  refine ⟨by simp, ?_⟩
  repeat' (first | exact Plus.refl _ | refine Plus.alloc ?_ _ | refine Plus.plus ?_ _ | refine Plus.drew ?_ | refine Plus.drewN ?_ _)
set_option maxRecDepth 100000 in
set_option maxHeartbeats 2000000 in
theorem compares_7 (k n l m : Int) (hl : Hid (lessR k n l m = false)) (hg : Hid (lessR l m k n = false)) (he : Hid (equalR k n l m = false)) (hea : Hid (equalR k n k n = true)) (heb : Hid (equalR l m l m = false)) (hs : Hid (sameR k n l m = false)) (ht : Hid (sameR l m k n = false)) (w : World) :
    Calls Tryd.prog 14 #[.agg #[.int .i64 k, .int .i64 n], .agg #[.int .i64 l, .int .i64 m]] w fun e w' => e = .returned (.bool true) ∧ Plus w w' := by
  go_enter Tryd.func14, Tryd.ntmps14
  go_wp2_with (first | (go_at_call 15; ((with_reducible refine (first_c _).mono ?_); rintro e w1 ⟨rfl, ⟨x1, rfl⟩⟩)))
  refine wp_region_plus (by kernel_rfl) (by kernel_rfl) ?_
  repeat (go_big_quiet_step ((first | (go_at_call 32; with_reducible exact calls_plus (less_v hl _)) | (go_at_call 32; with_reducible exact calls_plus (less_v hg _)) | (go_at_call 34; with_reducible exact calls_plus (equal_v he _)))))
  refine wpQuiet_nil ?_
  intro _ hw'
  obtain ⟨x9, rfl⟩ := hw'
  go_wp2_with (first | (go_at_call 34; ((with_reducible refine (equal_v hea _).mono ?_); rintro e w1 ⟨rfl, ⟨x1, rfl⟩⟩)) | (go_at_call 34; ((with_reducible refine (equal_v heb _).mono ?_); rintro e w1 ⟨rfl, ⟨x1, rfl⟩⟩)) | (go_at_call 36; ((with_reducible refine (same_v hs _).mono ?_); rintro e w1 ⟨rfl, ⟨x1, rfl⟩⟩)))
  refine wp_region_plus (by kernel_rfl) (by kernel_rfl) ?_
  repeat (go_big_quiet_step ((first | (go_at_call 15; with_reducible exact calls_plus (first_c _)) | (go_at_call_of 36 (Value.agg #[.int .i64 k, .int .i64 n]); with_reducible exact calls_plus (same_y k n _)) | (go_at_call_of 36 (Value.agg #[.int .i64 l, .int .i64 m]); with_reducible exact calls_plus (same_v ht _)) | (go_at_call 54; with_reducible exact calls_plus (w_c _ _)))))
  refine wpQuiet_nil ?_
  intro _ hw'
  obtain ⟨x8, rfl⟩ := hw'
  go_wp2_with fail
  go_returns
  refine ⟨by simp, ?_⟩
  repeat' (first | exact Plus.refl _ | refine Plus.alloc ?_ _ | refine Plus.plus ?_ _ | refine Plus.drew ?_ | refine Plus.drewN ?_ _)
theorem compares_w (k n l m : Int) (w : World) : Calls Tryd.prog 14 #[.agg #[.int .i64 k, .int .i64 n], .agg #[.int .i64 l, .int .i64 m]] w fun e w' => e = .returned (.bool true) ∧ Plus w w' := by
  rcases cmp_cases k n l m with ⟨hl, hg, he, hea, heb, hs⟩ | ⟨hl, hg, he, hea, heb, hs⟩ | ⟨hl, hg, he, hea, heb, hs⟩ | ⟨hl, hg, he, hea, heb, hs, hz⟩ | ⟨hl, hg, he, hea, hs⟩ | ⟨hl, hg, he, hea, hs⟩ | ⟨hl, hg, he, hea, heb, hs⟩
  · exact compares_1 k n l m hl hg he hea heb hs ((same_swap k n l m).trans hs) w
  · exact compares_2 k n l m hl hg he hea heb hs ((same_swap k n l m).trans hs) w
  · exact compares_3 k n l m hl hg he hea heb hs ((same_swap k n l m).trans hs) w
  · exact compares_4 k n l m hl hg he hea heb hs ((same_swap k n l m).trans hs) hz w
  · exact compares_5 k n l m hl hg he hea hs ((same_swap k n l m).trans hs) w
  · exact compares_6 k n l m hl hg he hea hs ((same_swap k n l m).trans hs) w
  · exact compares_7 k n l m hl hg he hea heb hs ((same_swap k n l m).trans hs) w
end Go.Proofs.YtdmodkmliagiiaaDoor
