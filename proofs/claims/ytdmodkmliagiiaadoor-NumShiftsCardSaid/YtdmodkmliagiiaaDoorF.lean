/- The chapter's examples: what the first check of each statement asks. -/
import Derived.Test.YtdmodkmliagiiaaDoorH1
import Derived.Test.YtdmodkmliagiiaaDoorQ
import Derived.Test.YtdmodkmliagiiaaDoorB2
import Derived.Test.YtdmodkmliagiiaaDoorB3
import Derived.Test.YtdmodkmliagiiaaDoorB4
import Derived.Test.YtdmodkmliagiiaaDoorB9
import Derived.Lib.AtoiErrMem
namespace Go.Proofs.YtdmodkmliagiiaaDoor
open Go.RowKit

@[go_sem] theorem run_field0 (a b : Int) (w : World) : (Instr.field 23 (.agg #[.int .i64 a, .int .i64 b]) 0).run Tryd.prog w = .ok (.int .i64 a) w := by kernel_rfl
@[go_sem] theorem run_field1 (a b : Int) (w : World) : (Instr.field 23 (.agg #[.int .i64 a, .int .i64 b]) 1).run Tryd.prog w = .ok (.int .i64 b) w := by kernel_rfl
theorem mul_k (w : World) : Calls Tryd.prog 20 #[.agg #[.int .i64 0, .int .i64 0], .agg #[.int .i64 0, .int .i64 (-3)]] w fun e w' => e = .returned (.tuple #[.agg #[.int .i64 1, .int .i64 0], .bool true]) ∧ Plus w w' := by
  have e : mulR 0 0 0 (-3) = ⟨1, 0, true⟩ := by kernel_rfl
  have h := mul_c 0 0 0 (-3) w
  rw [e] at h
  exact h
theorem div_k (w : World) : Calls Tryd.prog 22 #[.agg #[.int .i64 0, .int .i64 7], .agg #[.int .i64 0, .int .i64 2]] w fun e w' => e = .returned (.tuple #[.agg #[.int .i64 2, .int .i64 0], .bool false]) ∧ Plus w w' := by
  have e : divR 0 7 0 2 = ⟨2, 0, false⟩ := by kernel_rfl
  have h := div_c 0 7 0 2 w
  rw [e] at h
  exact h
theorem add_k (w : World) : Calls Tryd.prog 16 #[.agg #[.int .i64 0, .int .i64 9007199254740991], .agg #[.int .i64 0, .int .i64 1]] w fun e w' => e = .returned (.tuple #[.agg #[.int .i64 2, .int .i64 0], .bool false]) ∧ Plus w w' := by
  have e : addR 0 9007199254740991 0 1 = ⟨2, 0, false⟩ := by kernel_rfl
  have h := add_c 0 9007199254740991 0 1 w
  rw [e] at h
  exact h
theorem rem_k (w : World) : Calls Tryd.prog 28 #[.agg #[.int .i64 0, .int .i64 (-4)], .agg #[.int .i64 0, .int .i64 2]] w fun e w' => e = .returned (.agg #[.int .i64 1, .int .i64 0]) ∧ Plus w w' := by
  have e : remR 0 (-4) 0 2 = ⟨1, 0⟩ := by kernel_rfl
  have h := rem_c 0 (-4) 0 2 w
  rw [e] at h
  exact h
theorem i32_k (w : World) : Calls Tryd.prog 40 #[.agg #[.int .i64 0, .int .i64 2147483648]] w fun e w' => e = .returned (.int .i64 (-2147483648)) ∧ Plus w w' := by
  have e : i32R 0 2147483648 = -2147483648 := by kernel_rfl
  have h := i32_c 0 2147483648 w
  rw [e] at h
  exact h
theorem bit6_k (w : World) : Calls Tryd.prog 46 #[.int .i64 6, .agg #[.int .i64 0, .int .i64 (-1)], .agg #[.int .i64 0, .int .i64 0]] w fun e w' => e = .returned (.agg #[.int .i64 0, .int .i64 4294967295]) ∧ Plus w w' := by
  have e : bitR 6 0 (-1) 0 0 = ⟨0, 4294967295⟩ := by kernel_rfl
  have h := bit_c 6 0 (-1) 0 0 w
  rw [e] at h
  exact h
theorem bit4_k (w : World) : Calls Tryd.prog 46 #[.int .i64 4, .agg #[.int .i64 0, .int .i64 1], .agg #[.int .i64 0, .int .i64 33]] w fun e w' => e = .returned (.agg #[.int .i64 0, .int .i64 2]) ∧ Plus w w' := by
  have e : bitR 4 0 1 0 33 = ⟨0, 2⟩ := by kernel_rfl
  have h := bit_c 4 0 1 0 33 w
  rw [e] at h
  exact h

theorem itoa_0 (w : World) : Calls Tryd.prog 77 #[.int .i64 0] w fun e w' => e = .returned (.string ⟨#[48]⟩) ∧ Plus w w' :=
  (Tryd.strconv_Itoa_small 0 (by decide) w).mono fun _ _ ⟨he, hw⟩ => ⟨he.trans (by have e : Lib.decDigits 0 = [48] := (by kernel_rfl); rw [e]), by rw [hw]; exact Plus.refl _⟩
theorem atoi_0 (w : World) : Calls Tryd.prog 76 #[.string ⟨#[45, 48]⟩] w fun e w' => e = .returned (.tuple #[.int .i64 0, .nilIface]) ∧ Plus w w' :=
  (Tryd.strconv_Atoi ⟨#[45, 48]⟩ 0 (by decide) (by kernel_rfl) w).mono fun _ _ ⟨he, t, hw⟩ => ⟨he, by rw [hw]; exact Plus.of_below (Lib.bytesWorld_below w 5 t)⟩
theorem parse_k (w : World) : Calls Tryd.prog 48 #[.string ⟨#[45, 48]⟩] w fun e w' => e = .returned (.tuple #[.agg #[.int .i64 2, .int .i64 0], .bool false]) ∧ Plus w w' := by
  go_enter Tryd.func48, Tryd.ntmps48
  go_wp2_with (first | (go_at_call 76; refine (atoi_0 _).mono ?_; rintro e w1 ⟨rfl, ⟨x1, rfl⟩⟩) | (go_at_call 77; refine (itoa_0 _).mono ?_; rintro e w1 ⟨rfl, ⟨x2, rfl⟩⟩) | (go_at_call 58; refine (nan_c _).mono ?_; rintro e w1 ⟨rfl, ⟨x3, rfl⟩⟩))
  go_returns
  refine ⟨rfl, ?_⟩
  repeat' (first | exact Plus.refl _ | refine Plus.alloc ?_ _ | refine Plus.plus ?_ _ | refine Plus.drew ?_ | refine Plus.drewN ?_ _)
theorem valid_10 (w : World) : Calls Tryd.prog 55 #[.agg #[.int .i64 1, .int .i64 0]] w fun e w' => e = .returned (.agg #[.int .i64 1, .int .i64 0]) ∧ Plus w w' := valid_h ⟨by kernel_rfl, by kernel_rfl⟩ w
theorem text_k (w : World) : Calls Tryd.prog 52 #[.agg #[.int .i64 1, .int .i64 0]] w fun e w' => e = .returned (.string ⟨#[48]⟩) ∧ Plus w w' := by
  go_enter Tryd.func52, Tryd.ntmps52
  go_wp2_with (first | (go_at_call 55; refine (valid_10 _).mono ?_; rintro e w1 ⟨rfl, ⟨x1, rfl⟩⟩) | (go_at_call 77; refine (itoa_0 _).mono ?_; rintro e w1 ⟨rfl, ⟨x2, rfl⟩⟩))
  go_returns
  refine ⟨rfl, ?_⟩
  repeat' (first | exact Plus.refl _ | refine Plus.alloc ?_ _ | refine Plus.plus ?_ _ | refine Plus.drew ?_ | refine Plus.drewN ?_ _)
attribute [local go_sem] plus_add
set_option maxRecDepth 100000 in
set_option maxHeartbeats 2000000 in
theorem first_c (w : World) : Calls Tryd.prog 15 #[] w fun e w' => e = .returned (.bool true) ∧ Plus w w' := by
  go_enter Tryd.func15, Tryd.ntmps15
  go_wp2_with (first | (go_at_call 54; refine (w_c _ _).mono ?_; rintro e w1 ⟨rfl, ⟨x1, rfl⟩⟩) | (go_at_call 20; refine (mul_k _).mono ?_; rintro e w1 ⟨rfl, ⟨x1, rfl⟩⟩) | (go_at_call 22; refine (div_k _).mono ?_; rintro e w1 ⟨rfl, ⟨x1, rfl⟩⟩) | (go_at_call 16; refine (add_k _).mono ?_; rintro e w1 ⟨rfl, ⟨x1, rfl⟩⟩) | (go_at_call 48; refine (parse_k _).mono ?_; rintro e w1 ⟨rfl, ⟨x1, rfl⟩⟩) | (go_at_call 28; refine (rem_k _).mono ?_; rintro e w1 ⟨rfl, ⟨x1, rfl⟩⟩) | (go_at_call 40; refine (i32_k _).mono ?_; rintro e w1 ⟨rfl, ⟨x1, rfl⟩⟩) | (go_at_call_of 46 (Value.int .i64 6); refine (bit6_k _).mono ?_; rintro e w1 ⟨rfl, ⟨x1, rfl⟩⟩) | (go_at_call_of 46 (Value.int .i64 4); refine (bit4_k _).mono ?_; rintro e w1 ⟨rfl, ⟨x1, rfl⟩⟩) | (go_at_call 52; refine (text_k _).mono ?_; rintro e w1 ⟨rfl, ⟨x1, rfl⟩⟩))
  go_returns
  refine ⟨rfl, ?_⟩
  repeat' (first | exact Plus.refl _ | refine Plus.alloc ?_ _ | refine Plus.plus ?_ _ | refine Plus.drew ?_ | refine Plus.drewN ?_ _)
#print axioms first_c
end Go.Proofs.YtdmodkmliagiiaaDoor
