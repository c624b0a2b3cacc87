/- The walk of NumWholes. -/
import Derived.Test.YtdmodkmliagiiaaDoorV
namespace Go.Proofs.YtdmodkmliagiiaaDoor
open Go.RowKit

theorem whole_cases (k n : Int) : (∃ q, wholeR k n = ⟨0, q⟩ ∧ -9007199254740991 ≤ q ∧ q ≤ 9007199254740991) ∨ wholeR k n = ⟨3, 0⟩ ∨ wholeR k n = ⟨4, 0⟩ := by
  have h := isV_v k n
  unfold wholeR
  generalize vk k n = p at *
  generalize vn k n = q at *
  rcases h with ⟨rfl, h1, h2⟩ | ⟨rfl, rfl⟩ | ⟨rfl, rfl⟩ | ⟨rfl, rfl⟩ | ⟨rfl, rfl⟩
  · exact .inl ⟨q, by simp [wholeS], h1, h2⟩
  · exact .inl ⟨0, by simp [wholeS], by decide, by decide⟩
  · exact .inl ⟨0, by simp [wholeS], by decide, by decide⟩
  · exact .inr (.inl (by simp [wholeS]))
  · exact .inr (.inr (by simp [wholeS]))
theorem vk_w {q : Int} (h1 : -9007199254740991 ≤ q) (h2 : q ≤ 9007199254740991) : vk 0 q = 0 := vk_of (.inl ⟨rfl, h1, h2⟩)
theorem vn_w {q : Int} (h1 : -9007199254740991 ≤ q) (h2 : q ≤ 9007199254740991) : vn 0 q = q := vn_of (.inl ⟨rfl, h1, h2⟩)
theorem same_self (k n : Int) : sameR k n k n = true := by simp [sameR]
set_option maxRecDepth 100000 in
set_option maxHeartbeats 2000000 in
theorem wholes_a (k n : Int) (q : Int) (_hq : 0 ≤ q) (hw : Hid (wholeR k n = ⟨0, q⟩)) (hm : Hid (mayB 0 q = true)) (hww : Hid (wholeR 0 q = ⟨0, q⟩)) (hs : Hid (sameR 0 q 0 q = true)) (hi : Hid (indexR k n = q ∧ indexO k n = true)) (_hl : Hid (lessR 0 q 0 0 = false)) (w : World) :
    Calls Tryd.prog 12 #[.agg #[.int .i64 k, .int .i64 n]] w fun e w' => e = .returned (.bool true) ∧ Plus w w' := by
  go_enter Tryd.func12, Tryd.ntmps12
  go_wp2_with (first | (go_at_call 15; ((with_reducible refine (first_c _).mono ?_); rintro e w1 ⟨rfl, ⟨x1, rfl⟩⟩)) | (go_at_call 44; ((with_reducible refine (whole_v hw _).mono ?_); rintro e w1 ⟨rfl, ⟨x1, rfl⟩⟩)) | (go_at_call 38; ((with_reducible refine (index_v hi _).mono ?_); rintro e w1 ⟨rfl, ⟨x1, rfl⟩⟩)))
  refine wp_region_plus (by kernel_rfl) (by kernel_rfl) ?_
  repeat (go_big_quiet_step ((first | (go_at_call 24; with_reducible exact calls_plus (may_v hm _)) | (go_at_call 44; with_reducible exact calls_plus (whole_v hww _)) | (go_at_call 36; with_reducible exact calls_plus (same_v hs _)))))
  refine wpQuiet_nil ?_
  intro _ hw'
  obtain ⟨x9, rfl⟩ := hw'
  go_wp2_with (first | (go_at_call 15; ((with_reducible refine (first_c _).mono ?_); rintro e w1 ⟨rfl, ⟨x1, rfl⟩⟩)))
  go_returns
  refine ⟨by simp, ?_⟩
  repeat' (first | exact Plus.refl _ | refine Plus.alloc ?_ _ | refine Plus.plus ?_ _ | refine Plus.drew ?_ | refine Plus.drewN ?_ _)
set_option maxRecDepth 100000 in
set_option maxHeartbeats 2000000 in
theorem wholes_b (k n : Int) (q : Int) (_hq : q < 0) (hw : Hid (wholeR k n = ⟨0, q⟩)) (hm : Hid (mayB 0 q = true)) (hww : Hid (wholeR 0 q = ⟨0, q⟩)) (hs : Hid (sameR 0 q 0 q = true)) (hi : Hid (indexR k n = 0 ∧ indexO k n = false)) (hl : Hid (lessR 0 q 0 0 = true)) (w : World) :
    Calls Tryd.prog 12 #[.agg #[.int .i64 k, .int .i64 n]] w fun e w' => e = .returned (.bool true) ∧ Plus w w' := by
  go_enter Tryd.func12, Tryd.ntmps12
  go_wp2_with (first | (go_at_call 15; ((with_reducible refine (first_c _).mono ?_); rintro e w1 ⟨rfl, ⟨x1, rfl⟩⟩)) | (go_at_call 44; ((with_reducible refine (whole_v hw _).mono ?_); rintro e w1 ⟨rfl, ⟨x1, rfl⟩⟩)) | (go_at_call 38; ((with_reducible refine (index_v hi _).mono ?_); rintro e w1 ⟨rfl, ⟨x1, rfl⟩⟩)))
  refine wp_region_plus (by kernel_rfl) (by kernel_rfl) ?_
  repeat (go_big_quiet_step ((first | (go_at_call 24; with_reducible exact calls_plus (may_v hm _)) | (go_at_call 44; with_reducible exact calls_plus (whole_v hww _)) | (go_at_call 36; with_reducible exact calls_plus (same_v hs _)))))
  refine wpQuiet_nil ?_
  intro _ hw'
  obtain ⟨x9, rfl⟩ := hw'
  go_wp2_with (first | (go_at_call 15; ((with_reducible refine (first_c _).mono ?_); rintro e w1 ⟨rfl, ⟨x1, rfl⟩⟩)))
  refine wp_region_plus (by kernel_rfl) (by kernel_rfl) ?_
  repeat (go_big_quiet_step ((first | (go_at_call 15; with_reducible exact calls_plus (first_c _)) | (go_at_call 54; with_reducible exact calls_plus (w_c _ _)) | (go_at_call 32; with_reducible exact calls_plus (less_v hl _)))))
  refine wpQuiet_nil ?_
  intro _ hw'
  obtain ⟨x9, rfl⟩ := hw'
  go_wp2_with fail
  go_returns
  refine ⟨by simp, ?_⟩
  repeat' (first | exact Plus.refl _ | refine Plus.alloc ?_ _ | refine Plus.plus ?_ _ | refine Plus.drew ?_ | refine Plus.drewN ?_ _)
set_option maxRecDepth 100000 in
set_option maxHeartbeats 2000000 in
theorem wholes_c (k n : Int)  (hw : Hid (wholeR k n = ⟨3, 0⟩)) (hm : Hid (mayB 3 0 = true)) (hww : Hid (wholeR 3 0 = ⟨3, 0⟩)) (hs : Hid (sameR 3 0 3 0 = true)) (hi : Hid (indexR k n = 0 ∧ indexO k n = false)) (hl : Hid (lessR 3 0 0 0 = false)) (w : World) :
    Calls Tryd.prog 12 #[.agg #[.int .i64 k, .int .i64 n]] w fun e w' => e = .returned (.bool true) ∧ Plus w w' := by
  go_enter Tryd.func12, Tryd.ntmps12
  go_wp2_with (first | (go_at_call 15; ((with_reducible refine (first_c _).mono ?_); rintro e w1 ⟨rfl, ⟨x1, rfl⟩⟩)) | (go_at_call 44; ((with_reducible refine (whole_v hw _).mono ?_); rintro e w1 ⟨rfl, ⟨x1, rfl⟩⟩)) | (go_at_call 38; ((with_reducible refine (index_v hi _).mono ?_); rintro e w1 ⟨rfl, ⟨x1, rfl⟩⟩)))
  refine wp_region_plus (by kernel_rfl) (by kernel_rfl) ?_
  repeat (go_big_quiet_step ((first | (go_at_call 24; with_reducible exact calls_plus (may_v hm _)) | (go_at_call 44; with_reducible exact calls_plus (whole_v hww _)) | (go_at_call 36; with_reducible exact calls_plus (same_v hs _)))))
  refine wpQuiet_nil ?_
  intro _ hw'
  obtain ⟨x9, rfl⟩ := hw'
  go_wp2_with (first | (go_at_call 15; ((with_reducible refine (first_c _).mono ?_); rintro e w1 ⟨rfl, ⟨x1, rfl⟩⟩)))
  refine wp_region_plus (by kernel_rfl) (by kernel_rfl) ?_
  repeat (go_big_quiet_step ((first | (go_at_call 15; with_reducible exact calls_plus (first_c _)) | (go_at_call 54; with_reducible exact calls_plus (w_c _ _)) | (go_at_call 32; with_reducible exact calls_plus (less_v hl _)))))
  refine wpQuiet_nil ?_
  intro _ hw'
  obtain ⟨x9, rfl⟩ := hw'
  go_wp2_with fail
  go_returns
  refine ⟨by simp, ?_⟩
  repeat' (first | exact Plus.refl _ | refine Plus.alloc ?_ _ | refine Plus.plus ?_ _ | refine Plus.drew ?_ | refine Plus.drewN ?_ _)
set_option maxRecDepth 100000 in
set_option maxHeartbeats 2000000 in
theorem wholes_d (k n : Int)  (hw : Hid (wholeR k n = ⟨4, 0⟩)) (hm : Hid (mayB 4 0 = true)) (hww : Hid (wholeR 4 0 = ⟨4, 0⟩)) (hs : Hid (sameR 4 0 4 0 = true)) (hi : Hid (indexR k n = 0 ∧ indexO k n = false)) (hl : Hid (lessR 4 0 0 0 = true)) (w : World) :
    Calls Tryd.prog 12 #[.agg #[.int .i64 k, .int .i64 n]] w fun e w' => e = .returned (.bool true) ∧ Plus w w' := by
  go_enter Tryd.func12, Tryd.ntmps12
  go_wp2_with (first | (go_at_call 15; ((with_reducible refine (first_c _).mono ?_); rintro e w1 ⟨rfl, ⟨x1, rfl⟩⟩)) | (go_at_call 44; ((with_reducible refine (whole_v hw _).mono ?_); rintro e w1 ⟨rfl, ⟨x1, rfl⟩⟩)) | (go_at_call 38; ((with_reducible refine (index_v hi _).mono ?_); rintro e w1 ⟨rfl, ⟨x1, rfl⟩⟩)))
  refine wp_region_plus (by kernel_rfl) (by kernel_rfl) ?_
  repeat (go_big_quiet_step ((first | (go_at_call 24; with_reducible exact calls_plus (may_v hm _)) | (go_at_call 44; with_reducible exact calls_plus (whole_v hww _)) | (go_at_call 36; with_reducible exact calls_plus (same_v hs _)))))
  refine wpQuiet_nil ?_
  intro _ hw'
  obtain ⟨x9, rfl⟩ := hw'
  go_wp2_with (first | (go_at_call 15; ((with_reducible refine (first_c _).mono ?_); rintro e w1 ⟨rfl, ⟨x1, rfl⟩⟩)))
  refine wp_region_plus (by kernel_rfl) (by kernel_rfl) ?_
  repeat (go_big_quiet_step ((first | (go_at_call 15; with_reducible exact calls_plus (first_c _)) | (go_at_call 54; with_reducible exact calls_plus (w_c _ _)) | (go_at_call 32; with_reducible exact calls_plus (less_v hl _)))))
  refine wpQuiet_nil ?_
  intro _ hw'
  obtain ⟨x9, rfl⟩ := hw'
  go_wp2_with fail
  go_returns
  refine ⟨by simp, ?_⟩
  repeat' (first | exact Plus.refl _ | refine Plus.alloc ?_ _ | refine Plus.plus ?_ _ | refine Plus.drew ?_ | refine Plus.drewN ?_ _)
theorem wholes_w (k n : Int) (w : World) : Calls Tryd.prog 12 #[.agg #[.int .i64 k, .int .i64 n]] w fun e w' => e = .returned (.bool true) ∧ Plus w w' := by
  rcases whole_cases k n with ⟨q, h, h1, h2⟩ | h | h
  · have hm : mayB 0 q = true := mayB_of_isV (.inl ⟨rfl, h1, h2⟩)
    have hww : wholeR 0 q = ⟨0, q⟩ := by unfold wholeR; rw [vk_w h1 h2, vn_w h1 h2]; simp [wholeS]
    have hl : ∀ b, b = decide (q < 0) → lessR 0 q 0 0 = b := fun b hb => by
      unfold lessR
      rw [vk_w h1 h2, vn_w h1 h2, show vk 0 0 = 0 from rfl, show vn 0 0 = 0 from rfl, hb]
      simp [lessS, place]
    by_cases hq : 0 ≤ q
    · exact wholes_a k n q hq h hm hww (same_self _ _) ⟨by unfold indexR; rw [h]; simp [indexS, hq], by unfold indexO; rw [h]; simp [indexB, hq]⟩ (hl _ (by simp; omega)) w
    · exact wholes_b k n q (by omega) h hm hww (same_self _ _) ⟨by unfold indexR; rw [h]; simp [indexS, hq], by unfold indexO; rw [h]; simp [indexB, hq]⟩ (hl _ (by simp; omega)) w
  · exact wholes_c k n h (Lib.hid (by kernel_rfl)) (Lib.hid (by kernel_rfl)) (same_self _ _) ⟨by unfold indexR; rw [h]; rfl, by unfold indexO; rw [h]; rfl⟩ (Lib.hid (by kernel_rfl)) w
  · exact wholes_d k n h (Lib.hid (by kernel_rfl)) (Lib.hid (by kernel_rfl)) (same_self _ _) ⟨by unfold indexR; rw [h]; rfl, by unfold indexO; rw [h]; rfl⟩ (Lib.hid (by kernel_rfl)) w
end Go.Proofs.YtdmodkmliagiiaaDoor
