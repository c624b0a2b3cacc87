/- Contracts of num.Bit. -/
import Derived.Test.YtdmodkmliagiiaaDoorS3
import Derived.Test.YtdmodkmliagiiaaDoorB8
namespace Go.Proofs.YtdmodkmliagiiaaDoor
open Go.RowKit

theorem word_h2 {k n x : Int} (h : Hid (wordR k n = x)) (w : World) : Calls Tryd.prog 75 #[.agg #[.int .i64 k, .int .i64 n]] w fun e w' => e = .returned (.int .u32 x) ∧ Plus w w' := by
  have := h.out
  subst this
  exact word_c k n w

set_option maxHeartbeats 1000000 in
theorem bit1_x (k n l m x y : Int) (hx : Hid (wordR k n = x)) (hy : Hid (wordR l m = y)) (hx0 : 0 ≤ x) (hx1 : x < 4294967296) (hy0 : 0 ≤ y) (hy1 : y < 4294967296) (w : World) :
    Calls Tryd.prog 46 #[.int .i64 1, .agg #[.int .i64 k, .int .i64 n], .agg #[.int .i64 l, .int .i64 m]] w fun e w' => e = .returned (.agg #[.int .i64 0, .int .i64 (bitN 1 x y)]) ∧ Plus w w' := by
  go_enter Tryd.func46, Tryd.ntmps46
  go_wp2_with (first | (go_at_call_of 75 (Value.agg #[.int .i64 k, .int .i64 n]); refine (word_h2 hx _).mono ?_; rintro e w1 ⟨rfl, ⟨x1, rfl⟩⟩) | (go_at_call_of 75 (Value.agg #[.int .i64 l, .int .i64 m]); refine (word_h2 hy _).mono ?_; rintro e w1 ⟨rfl, ⟨x1, rfl⟩⟩) | (go_at_call 40; refine (i32_c _ _ _).mono ?_; rintro e w1 ⟨rfl, ⟨x1, rfl⟩⟩) | (go_at_call 42; refine (u32_c _ _ _).mono ?_; rintro e w1 ⟨rfl, ⟨x1, rfl⟩⟩) | (go_at_call 58; refine (nan_c _).mono ?_; rintro e w1 ⟨rfl, ⟨x1, rfl⟩⟩))
  refine wp_region_plus (by kernel_rfl) (by kernel_rfl) ?_
  repeat (go_big_quiet_step ((first | (go_at_call_of 75 (Value.agg #[.int .i64 k, .int .i64 n]); exact calls_plus (word_h2 hx _)) | (go_at_call_of 75 (Value.agg #[.int .i64 l, .int .i64 m]); exact calls_plus (word_h2 hy _)))))
  refine wpQuiet_nil ?_
  intro _ hw'
  obtain ⟨x3, rfl⟩ := hw'
  go_wp2_with fail
  go_returns
  refine ⟨by rw [bit1_is hx0 hx1 hy0 hy1], ?_⟩
  repeat' (first | exact Plus.refl _ | refine Plus.alloc ?_ _ | refine Plus.plus ?_ _ | refine Plus.drew ?_ | refine Plus.drewN ?_ _)

set_option maxHeartbeats 1000000 in
theorem bit2_x (k n l m x y : Int) (hx : Hid (wordR k n = x)) (hy : Hid (wordR l m = y)) (hx0 : 0 ≤ x) (hx1 : x < 4294967296) (hy0 : 0 ≤ y) (hy1 : y < 4294967296) (w : World) :
    Calls Tryd.prog 46 #[.int .i64 2, .agg #[.int .i64 k, .int .i64 n], .agg #[.int .i64 l, .int .i64 m]] w fun e w' => e = .returned (.agg #[.int .i64 0, .int .i64 (bitN 2 x y)]) ∧ Plus w w' := by
  go_enter Tryd.func46, Tryd.ntmps46
  go_wp2_with (first | (go_at_call_of 75 (Value.agg #[.int .i64 k, .int .i64 n]); refine (word_h2 hx _).mono ?_; rintro e w1 ⟨rfl, ⟨x1, rfl⟩⟩) | (go_at_call_of 75 (Value.agg #[.int .i64 l, .int .i64 m]); refine (word_h2 hy _).mono ?_; rintro e w1 ⟨rfl, ⟨x1, rfl⟩⟩) | (go_at_call 40; refine (i32_c _ _ _).mono ?_; rintro e w1 ⟨rfl, ⟨x1, rfl⟩⟩) | (go_at_call 42; refine (u32_c _ _ _).mono ?_; rintro e w1 ⟨rfl, ⟨x1, rfl⟩⟩) | (go_at_call 58; refine (nan_c _).mono ?_; rintro e w1 ⟨rfl, ⟨x1, rfl⟩⟩))
  refine wp_region_plus (by kernel_rfl) (by kernel_rfl) ?_
  repeat (go_big_quiet_step ((first | (go_at_call_of 75 (Value.agg #[.int .i64 k, .int .i64 n]); exact calls_plus (word_h2 hx _)) | (go_at_call_of 75 (Value.agg #[.int .i64 l, .int .i64 m]); exact calls_plus (word_h2 hy _)))))
  refine wpQuiet_nil ?_
  intro _ hw'
  obtain ⟨x3, rfl⟩ := hw'
  go_wp2_with fail
  go_returns
  refine ⟨by rw [bit2_is hx0 hx1 hy0 hy1], ?_⟩
  repeat' (first | exact Plus.refl _ | refine Plus.alloc ?_ _ | refine Plus.plus ?_ _ | refine Plus.drew ?_ | refine Plus.drewN ?_ _)

set_option maxHeartbeats 1000000 in
theorem bit3_x (k n l m x y : Int) (hx : Hid (wordR k n = x)) (hy : Hid (wordR l m = y)) (hx0 : 0 ≤ x) (hx1 : x < 4294967296) (hy0 : 0 ≤ y) (hy1 : y < 4294967296) (w : World) :
    Calls Tryd.prog 46 #[.int .i64 3, .agg #[.int .i64 k, .int .i64 n], .agg #[.int .i64 l, .int .i64 m]] w fun e w' => e = .returned (.agg #[.int .i64 0, .int .i64 (bitN 3 x y)]) ∧ Plus w w' := by
  go_enter Tryd.func46, Tryd.ntmps46
  go_wp2_with (first | (go_at_call_of 75 (Value.agg #[.int .i64 k, .int .i64 n]); refine (word_h2 hx _).mono ?_; rintro e w1 ⟨rfl, ⟨x1, rfl⟩⟩) | (go_at_call_of 75 (Value.agg #[.int .i64 l, .int .i64 m]); refine (word_h2 hy _).mono ?_; rintro e w1 ⟨rfl, ⟨x1, rfl⟩⟩) | (go_at_call 40; refine (i32_c _ _ _).mono ?_; rintro e w1 ⟨rfl, ⟨x1, rfl⟩⟩) | (go_at_call 42; refine (u32_c _ _ _).mono ?_; rintro e w1 ⟨rfl, ⟨x1, rfl⟩⟩) | (go_at_call 58; refine (nan_c _).mono ?_; rintro e w1 ⟨rfl, ⟨x1, rfl⟩⟩))
  refine wp_region_plus (by kernel_rfl) (by kernel_rfl) ?_
  repeat (go_big_quiet_step ((first | (go_at_call_of 75 (Value.agg #[.int .i64 k, .int .i64 n]); exact calls_plus (word_h2 hx _)) | (go_at_call_of 75 (Value.agg #[.int .i64 l, .int .i64 m]); exact calls_plus (word_h2 hy _)))))
  refine wpQuiet_nil ?_
  intro _ hw'
  obtain ⟨x3, rfl⟩ := hw'
  go_wp2_with fail
  go_returns
  refine ⟨by rw [bit3_is hx0 hx1 hy0 hy1], ?_⟩
  repeat' (first | exact Plus.refl _ | refine Plus.alloc ?_ _ | refine Plus.plus ?_ _ | refine Plus.drew ?_ | refine Plus.drewN ?_ _)

set_option maxHeartbeats 1000000 in
theorem bit4_x (k n l m x y : Int) (hx : Hid (wordR k n = x)) (hy : Hid (wordR l m = y)) (_hx0 : 0 ≤ x) (_hx1 : x < 4294967296) (_hy0 : 0 ≤ y) (_hy1 : y < 4294967296) (w : World) :
    Calls Tryd.prog 46 #[.int .i64 4, .agg #[.int .i64 k, .int .i64 n], .agg #[.int .i64 l, .int .i64 m]] w fun e w' => e = .returned (.agg #[.int .i64 0, .int .i64 (bitN 4 x y)]) ∧ Plus w w' := by
  go_enter Tryd.func46, Tryd.ntmps46
  go_wp2_with (first | (go_at_call_of 75 (Value.agg #[.int .i64 k, .int .i64 n]); refine (word_h2 hx _).mono ?_; rintro e w1 ⟨rfl, ⟨x1, rfl⟩⟩) | (go_at_call_of 75 (Value.agg #[.int .i64 l, .int .i64 m]); refine (word_h2 hy _).mono ?_; rintro e w1 ⟨rfl, ⟨x1, rfl⟩⟩) | (go_at_call 40; refine (i32_c _ _ _).mono ?_; rintro e w1 ⟨rfl, ⟨x1, rfl⟩⟩) | (go_at_call 42; refine (u32_c _ _ _).mono ?_; rintro e w1 ⟨rfl, ⟨x1, rfl⟩⟩) | (go_at_call 58; refine (nan_c _).mono ?_; rintro e w1 ⟨rfl, ⟨x1, rfl⟩⟩))
  go_returns
  refine ⟨by rw [bit4_is x y], ?_⟩
  repeat' (first | exact Plus.refl _ | refine Plus.alloc ?_ _ | refine Plus.plus ?_ _ | refine Plus.drew ?_ | refine Plus.drewN ?_ _)

set_option maxHeartbeats 1000000 in
theorem bit5_x (k n l m x y : Int) (hx : Hid (wordR k n = x)) (hy : Hid (wordR l m = y)) (_hx0 : 0 ≤ x) (_hx1 : x < 4294967296) (_hy0 : 0 ≤ y) (_hy1 : y < 4294967296) (w : World) :
    Calls Tryd.prog 46 #[.int .i64 5, .agg #[.int .i64 k, .int .i64 n], .agg #[.int .i64 l, .int .i64 m]] w fun e w' => e = .returned (.agg #[.int .i64 0, .int .i64 (bitN 5 x y)]) ∧ Plus w w' := by
  go_enter Tryd.func46, Tryd.ntmps46
  go_wp2_with (first | (go_at_call_of 75 (Value.agg #[.int .i64 k, .int .i64 n]); refine (word_h2 hx _).mono ?_; rintro e w1 ⟨rfl, ⟨x1, rfl⟩⟩) | (go_at_call_of 75 (Value.agg #[.int .i64 l, .int .i64 m]); refine (word_h2 hy _).mono ?_; rintro e w1 ⟨rfl, ⟨x1, rfl⟩⟩) | (go_at_call 40; refine (i32_c _ _ _).mono ?_; rintro e w1 ⟨rfl, ⟨x1, rfl⟩⟩) | (go_at_call 42; refine (u32_c _ _ _).mono ?_; rintro e w1 ⟨rfl, ⟨x1, rfl⟩⟩) | (go_at_call 58; refine (nan_c _).mono ?_; rintro e w1 ⟨rfl, ⟨x1, rfl⟩⟩))
  go_returns
  refine ⟨by rw [sg_i32, hx.out, bitN5], ?_⟩
  repeat' (first | exact Plus.refl _ | refine Plus.alloc ?_ _ | refine Plus.plus ?_ _ | refine Plus.drew ?_ | refine Plus.drewN ?_ _)

set_option maxHeartbeats 1000000 in
theorem bit6_x (k n l m x y : Int) (hx : Hid (wordR k n = x)) (hy : Hid (wordR l m = y)) (_hx0 : 0 ≤ x) (_hx1 : x < 4294967296) (_hy0 : 0 ≤ y) (_hy1 : y < 4294967296) (w : World) :
    Calls Tryd.prog 46 #[.int .i64 6, .agg #[.int .i64 k, .int .i64 n], .agg #[.int .i64 l, .int .i64 m]] w fun e w' => e = .returned (.agg #[.int .i64 0, .int .i64 (bitN 6 x y)]) ∧ Plus w w' := by
  go_enter Tryd.func46, Tryd.ntmps46
  go_wp2_with (first | (go_at_call_of 75 (Value.agg #[.int .i64 k, .int .i64 n]); refine (word_h2 hx _).mono ?_; rintro e w1 ⟨rfl, ⟨x1, rfl⟩⟩) | (go_at_call_of 75 (Value.agg #[.int .i64 l, .int .i64 m]); refine (word_h2 hy _).mono ?_; rintro e w1 ⟨rfl, ⟨x1, rfl⟩⟩) | (go_at_call 40; refine (i32_c _ _ _).mono ?_; rintro e w1 ⟨rfl, ⟨x1, rfl⟩⟩) | (go_at_call 42; refine (u32_c _ _ _).mono ?_; rintro e w1 ⟨rfl, ⟨x1, rfl⟩⟩) | (go_at_call 58; refine (nan_c _).mono ?_; rintro e w1 ⟨rfl, ⟨x1, rfl⟩⟩))
  go_returns
  refine ⟨by rw [hx.out, bitN6], ?_⟩
  repeat' (first | exact Plus.refl _ | refine Plus.alloc ?_ _ | refine Plus.plus ?_ _ | refine Plus.drew ?_ | refine Plus.drewN ?_ _)

set_option maxHeartbeats 1000000 in
theorem bit0_x (op k n l m y : Int) (hy : Hid (wordR l m = y)) (_hy0 : 0 ≤ y) (_hy1 : y < 4294967296) (o1 : (op == 1) = false) (o2 : (op == 2) = false) (o3 : (op == 3) = false) (o4 : (op == 4) = false) (o5 : (op == 5) = false) (o6 : (op == 6) = false) (w : World) :
    Calls Tryd.prog 46 #[.int .i64 op, .agg #[.int .i64 k, .int .i64 n], .agg #[.int .i64 l, .int .i64 m]] w fun e w' => e = .returned (.agg #[.int .i64 2, .int .i64 0]) ∧ Plus w w' := by
  go_enter Tryd.func46, Tryd.ntmps46
  go_wp2_with (first | (go_at_call_of 75 (Value.agg #[.int .i64 l, .int .i64 m]); refine (word_h2 hy _).mono ?_; rintro e w1 ⟨rfl, ⟨x1, rfl⟩⟩) | (go_at_call 58; refine (nan_c _).mono ?_; rintro e w1 ⟨rfl, ⟨x1, rfl⟩⟩))
  go_returns
  refine ⟨rfl, ?_⟩
  repeat' (first | exact Plus.refl _ | refine Plus.alloc ?_ _ | refine Plus.plus ?_ _ | refine Plus.drew ?_ | refine Plus.drewN ?_ _)

theorem bit_c (op k n l m : Int) (w : World) : Calls Tryd.prog 46 #[.int .i64 op, .agg #[.int .i64 k, .int .i64 n], .agg #[.int .i64 l, .int .i64 m]] w fun e w' => e = .returned (.agg #[.int .i64 (bitR op k n l m).k, .int .i64 (bitR op k n l m).n]) ∧ Plus w w' := by
  obtain ⟨a1, a2⟩ := word_bd k n
  obtain ⟨b1, b2⟩ := word_bd l m
  by_cases h : op = 1 ∨ op = 2 ∨ op = 3 ∨ op = 4 ∨ op = 5 ∨ op = 6
  · have e : bitR op k n l m = ⟨0, bitN op (wordR k n) (wordR l m)⟩ := by unfold bitR; rw [if_pos h]
    rw [e]
    dsimp only
    rcases h with rfl | rfl | rfl | rfl | rfl | rfl
    · exact bit1_x k n l m _ _ rfl rfl a1 a2 b1 b2 w
    · exact bit2_x k n l m _ _ rfl rfl a1 a2 b1 b2 w
    · exact bit3_x k n l m _ _ rfl rfl a1 a2 b1 b2 w
    · exact bit4_x k n l m _ _ rfl rfl a1 a2 b1 b2 w
    · exact bit5_x k n l m _ _ rfl rfl a1 a2 b1 b2 w
    · exact bit6_x k n l m _ _ rfl rfl a1 a2 b1 b2 w
  · have e : bitR op k n l m = ⟨2, 0⟩ := by unfold bitR; rw [if_neg h]
    rw [e]
    dsimp only
    simp only [not_or] at h
    obtain ⟨o1, o2, o3, o4, o5, o6⟩ := h
    exact bit0_x op k n l m _ rfl b1 b2 (beq_f o1) (beq_f o2) (beq_f o3) (beq_f o4) (beq_f o5) (beq_f o6) w
end Go.Proofs.YtdmodkmliagiiaaDoor
