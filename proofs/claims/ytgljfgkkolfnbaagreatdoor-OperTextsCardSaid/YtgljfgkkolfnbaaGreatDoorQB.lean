/- num: Add. num: Neg, Less. num: Sub, Bit. -/
import Derived.Test.YtgljfgkkolfnbaaGreatDoorQA
namespace Go.Proofs.YtgljfgkkolfnbaaGreatDoor
open Go.RowKit

set_option maxHeartbeats 4000000 in
theorem add_h (k n l m p q r s : Int) (h1 : Hid (vk k n = p ∧ vn k n = q)) (h2 : Hid (vk l m = r ∧ vn l m = s)) (hp : Hid (IsV p q)) (hr : Hid (IsV r s)) (w : World) :
    Calls Tryz.prog 101 #[.agg #[.int .i64 k, .int .i64 n], .agg #[.int .i64 l, .int .i64 m]] w fun e w' => e = .returned (.tuple #[.agg #[.int .i64 (addS p q r s).k, .int .i64 (addS p q r s).n], .bool (addS p q r s).ok]) ∧ Plus w w' := by
  go_enter Tryz.func101, Tryz.ntmps101
  go_upto_region 1 with fail
  go_cut [] (fun wx => ∃ x1 x2, wx = plus (plus (((w.alloc (.cells #[.int .i64 p, .int .i64 q] 23)).alloc (.cells #[.int .i64 r, .int .i64 s] 23)).alloc (.cells #[.int .i64 0, .int .i64 0] 23)) x1) x2)
  case first =>
    go_region_with (first | (go_at_call_of 128 (Value.agg #[.int .i64 k, .int .i64 n]); refine (valid_h h1 _).mono ?_; rintro e w1 ⟨rfl, ⟨x1, rfl⟩⟩) | (go_at_call_of 128 (Value.agg #[.int .i64 l, .int .i64 m]); refine (valid_h h2 _).mono ?_; rintro e w1 ⟨rfl, ⟨x1, rfl⟩⟩))
    all_goals (go_wp2_with fail; go_meet; exact ⟨_, _, rfl⟩)
  case rest =>
    obtain ⟨x1, x2, rfl⟩ := hcut
    have g1 := hp.out
    have g2 := hr.out
    clear h1 h2 hp hr
    by_cases hp2 : p = 2
    · subst hp2
      go_wp2_with (first | (go_at_call 129; refine (isNaN_c _ _ _).mono ?_; rintro e w1 ⟨rfl, ⟨x1, rfl⟩⟩) | (go_at_call 159; refine (isInf_c _ _ _).mono ?_; rintro e w1 ⟨rfl, ⟨x1, rfl⟩⟩) | (go_at_call 140; refine (nan_c _).mono ?_; rintro e w1 ⟨rfl, ⟨x2, rfl⟩⟩) | (go_at_call 160; refine (of_c _ _).mono ?_; rintro e w1 ⟨rfl, ⟨x2, rfl⟩⟩))
      go_returns
      refine ⟨?_, ?_⟩
      · simp [addS]
      · repeat' (first | exact Plus.refl _ | refine Plus.alloc ?_ _ | refine Plus.plus ?_ _ | refine Plus.drew ?_ | refine Plus.drewN ?_ _)
    by_cases hr2 : r = 2
    · subst hr2
      have e2 := beq_f hp2
      go_wp2_with (first | (go_at_call 129; refine (isNaN_c _ _ _).mono ?_; rintro e w1 ⟨rfl, ⟨x1, rfl⟩⟩) | (go_at_call 159; refine (isInf_c _ _ _).mono ?_; rintro e w1 ⟨rfl, ⟨x1, rfl⟩⟩) | (go_at_call 140; refine (nan_c _).mono ?_; rintro e w1 ⟨rfl, ⟨x2, rfl⟩⟩) | (go_at_call 160; refine (of_c _ _).mono ?_; rintro e w1 ⟨rfl, ⟨x2, rfl⟩⟩))
      go_returns
      refine ⟨?_, ?_⟩
      · simp [addS]
      · repeat' (first | exact Plus.refl _ | refine Plus.alloc ?_ _ | refine Plus.plus ?_ _ | refine Plus.drew ?_ | refine Plus.drewN ?_ _)
    rcases g1 with ⟨rfl, a1, a2⟩ | ⟨rfl, rfl⟩ | ⟨rfl, rfl⟩ | ⟨rfl, rfl⟩ | ⟨rfl, rfl⟩ <;> rcases g2 with ⟨rfl, b1, b2⟩ | ⟨rfl, rfl⟩ | ⟨rfl, rfl⟩ | ⟨rfl, rfl⟩ | ⟨rfl, rfl⟩
    all_goals first | (exact absurd rfl hp2) | (exact absurd rfl hr2) | skip
    all_goals clear hp2 hr2
    all_goals go_wp2_with (first | (go_at_call 129; refine (isNaN_c _ _ _).mono ?_; rintro e w1 ⟨rfl, ⟨x1, rfl⟩⟩) | (go_at_call 159; refine (isInf_c _ _ _).mono ?_; rintro e w1 ⟨rfl, ⟨x1, rfl⟩⟩) | (go_at_call 140; refine (nan_c _).mono ?_; rintro e w1 ⟨rfl, ⟨x2, rfl⟩⟩) | (go_at_call 160; refine (of_c _ _).mono ?_; rintro e w1 ⟨rfl, ⟨x2, rfl⟩⟩))
    all_goals go_returns
    all_goals refine ⟨?_, ?_⟩
    all_goals first | (simp [addS, *]; done) | (with_reducible (repeat' (first | exact Plus.refl _ | refine Plus.alloc ?_ _ | refine Plus.plus ?_ _ | refine Plus.drew ?_ | refine Plus.drewN ?_ _)); done) | (simp_all [addS]; done) | skip
    all_goals go_show

theorem add_c (k n l m : Int) (w : World) : Calls Tryz.prog 101 #[.agg #[.int .i64 k, .int .i64 n], .agg #[.int .i64 l, .int .i64 m]] w fun e w' => e = .returned (.tuple #[.agg #[.int .i64 (addR k n l m).k, .int .i64 (addR k n l m).n], .bool (addR k n l m).ok]) ∧ Plus w w' :=
  add_h k n l m _ _ _ _ ⟨rfl, rfl⟩ ⟨rfl, rfl⟩ (isV_v k n) (isV_v l m) w

end Go.Proofs.YtgljfgkkolfnbaaGreatDoor

namespace Go.Proofs.YtgljfgkkolfnbaaGreatDoor
open Go.RowKit

set_option maxHeartbeats 2000000 in
theorem word_h {k n p q : Int} (h1 : Hid (vk k n = p ∧ vn k n = q)) (hp : Hid (IsV p q)) (w : World) :
    Calls Tryz.prog 137 #[.agg #[.int .i64 k, .int .i64 n]] w fun e w' => e = .returned (.int .u32 (wordS p q)) ∧ Plus w w' := by
  have g1 := hp.out
  clear hp
  rcases g1 with ⟨rfl, hq1, hq2⟩ | ⟨rfl, rfl⟩ | ⟨rfl, rfl⟩ | ⟨rfl, rfl⟩ | ⟨rfl, rfl⟩
  all_goals go_enter Tryz.func137, Tryz.ntmps137
  all_goals go_wp2_with (first | (go_at_call 128; refine (valid_h h1 _).mono ?_; rintro e w1 ⟨rfl, ⟨x0, rfl⟩⟩))
  all_goals go_returns
  all_goals refine ⟨?_, ?_⟩
  all_goals first | (simp [wordS, *]; done) | (with_reducible (repeat' (first | exact Plus.refl _ | refine Plus.alloc ?_ _ | refine Plus.plus ?_ _ | refine Plus.drew ?_ | refine Plus.drewN ?_ _)); done) | (simp_all [wordS]; done) | skip
  all_goals go_show

theorem word_c (k n : Int) (w : World) : Calls Tryz.prog 137 #[.agg #[.int .i64 k, .int .i64 n]] w fun e w' => e = .returned (.int .u32 (wordR k n)) ∧ Plus w w' :=
  word_h ⟨rfl, rfl⟩ (isV_v k n) w


set_option maxHeartbeats 4000000 in
theorem less_h (k n l m p q r s : Int) (h1 : Hid (vk k n = p ∧ vn k n = q)) (h2 : Hid (vk l m = r ∧ vn l m = s)) (hp : Hid (IsV p q)) (hr : Hid (IsV r s)) (w : World) :
    Calls Tryz.prog 176 #[.agg #[.int .i64 k, .int .i64 n], .agg #[.int .i64 l, .int .i64 m]] w fun e w' => e = .returned (.bool (lessS p q r s)) ∧ Plus w w' := by
  go_enter Tryz.func176, Tryz.ntmps176
  go_upto_region 1 with fail
  go_cut [] (fun wx => ∃ x1 x2, wx = plus (plus ((w.alloc (.cells #[.int .i64 p, .int .i64 q] 23)).alloc (.cells #[.int .i64 r, .int .i64 s] 23)) x1) x2)
  case first =>
    go_region_with (first | (go_at_call_of 128 (Value.agg #[.int .i64 k, .int .i64 n]); refine (valid_h h1 _).mono ?_; rintro e w1 ⟨rfl, ⟨x1, rfl⟩⟩) | (go_at_call_of 128 (Value.agg #[.int .i64 l, .int .i64 m]); refine (valid_h h2 _).mono ?_; rintro e w1 ⟨rfl, ⟨x1, rfl⟩⟩))
    all_goals (go_wp2_with fail; go_meet; exact ⟨_, _, rfl⟩)
  case rest =>
    obtain ⟨x1, x2, rfl⟩ := hcut
    have g1 := hp.out
    have g2 := hr.out
    clear h1 h2 hp hr
    have HE := Lib.hid (rfl : lessS p q r s = lessS p q r s)
    by_cases hp2 : p = 2
    · subst hp2
      go_wp2_with fail
      refine wp_region_plus (by kernel_rfl) (by kernel_rfl) ?_
      repeat (go_big_quiet_step ((first | (go_at_call 129; exact calls_plus (isNaN_c _ _ _)) | (go_at_call 130; exact calls_plus (place_c _ _ _)))))
      refine wpQuiet_nil ?_
      intro _ hw'
      obtain ⟨x3, rfl⟩ := hw'
      go_wp2_with fail
      go_returns
      refine ⟨?_, ?_⟩
      · simp [lessS]
      · repeat' (first | exact Plus.refl _ | refine Plus.alloc ?_ _ | refine Plus.plus ?_ _ | refine Plus.drew ?_ | refine Plus.drewN ?_ _)
    by_cases hr2 : r = 2
    · subst hr2
      have e2 := beq_f hp2
      go_wp2_with fail
      refine wp_region_plus (by kernel_rfl) (by kernel_rfl) ?_
      repeat (go_big_quiet_step ((first | (go_at_call 129; exact calls_plus (isNaN_c _ _ _)) | (go_at_call 130; exact calls_plus (place_c _ _ _)))))
      refine wpQuiet_nil ?_
      intro _ hw'
      obtain ⟨x3, rfl⟩ := hw'
      go_wp2_with fail
      go_returns
      refine ⟨?_, ?_⟩
      · simp [lessS, e2]
      · repeat' (first | exact Plus.refl _ | refine Plus.alloc ?_ _ | refine Plus.plus ?_ _ | refine Plus.drew ?_ | refine Plus.drewN ?_ _)
    · have e2 := beq_f hp2
      have e3 := beq_f hr2
      go_wp2_with fail
      refine wp_region_plus (by kernel_rfl) (by kernel_rfl) ?_
      repeat (go_big_quiet_step ((first | (go_at_call 129; exact calls_plus (isNaN_c _ _ _)) | (go_at_call 130; exact calls_plus (place_c _ _ _)))))
      refine wpQuiet_nil ?_
      intro _ hw'
      obtain ⟨x3, rfl⟩ := hw'
      go_wp2_with fail
      go_returns
      refine ⟨?_, ?_⟩
      · simp [lessS, e2, e3]
      · repeat' (first | exact Plus.refl _ | refine Plus.alloc ?_ _ | refine Plus.plus ?_ _ | refine Plus.drew ?_ | refine Plus.drewN ?_ _)

theorem less_c (k n l m : Int) (w : World) : Calls Tryz.prog 176 #[.agg #[.int .i64 k, .int .i64 n], .agg #[.int .i64 l, .int .i64 m]] w fun e w' => e = .returned (.bool (lessR k n l m)) ∧ Plus w w' :=
  less_h k n l m _ _ _ _ ⟨rfl, rfl⟩ ⟨rfl, rfl⟩ (isV_v k n) (isV_v l m) w
end Go.Proofs.YtgljfgkkolfnbaaGreatDoor

namespace Go.Proofs.YtgljfgkkolfnbaaGreatDoor
open Go.RowKit

theorem i32_c (k n : Int) (w : World) : Calls Tryz.prog 138 #[.agg #[.int .i64 k, .int .i64 n]] w fun e w' => e = .returned (.int .i64 (i32R k n)) ∧ Plus w w' := by
  have e0 : wrap64 (wrap32 (wordR k n)) = i32R k n := by
    have := word_bd k n
    unfold i32R wrap64 wrap32
    split <;> omega
  have E := Lib.hid e0; clear e0
  go_enter Tryz.func138, Tryz.ntmps138
  go_wp2_with ((go_at_call 137; refine (word_c _ _ _).mono ?_; rintro e w1 ⟨rfl, ⟨x1, rfl⟩⟩))
  go_returns
  refine ⟨?_, ?_⟩
  · show Ending.returned (.int .i64 (wrap64 (wrap32 (wordR k n)))) = _
    rw [E.out]
  · repeat' (first | exact Plus.refl _ | refine Plus.alloc ?_ _ | refine Plus.plus ?_ _ | refine Plus.drew ?_ | refine Plus.drewN ?_ _)
theorem u32_c (k n : Int) (w : World) : Calls Tryz.prog 139 #[.agg #[.int .i64 k, .int .i64 n]] w fun e w' => e = .returned (.int .i64 (wordR k n)) ∧ Plus w w' := by
  have e0 : wrap64 (wordR k n) = wordR k n := by
    have := word_bd k n
    unfold wrap64
    omega
  have E := Lib.hid e0; clear e0
  go_enter Tryz.func139, Tryz.ntmps139
  go_wp2_with ((go_at_call 137; refine (word_c _ _ _).mono ?_; rintro e w1 ⟨rfl, ⟨x1, rfl⟩⟩))
  go_returns
  refine ⟨?_, ?_⟩
  · show Ending.returned (.int .i64 (wrap64 (wordR k n))) = _
    rw [E.out]
  · repeat' (first | exact Plus.refl _ | refine Plus.alloc ?_ _ | refine Plus.plus ?_ _ | refine Plus.drew ?_ | refine Plus.drewN ?_ _)
set_option maxHeartbeats 1000000 in
theorem sub_c (k n l m : Int) (w : World) : Calls Tryz.prog 102 #[.agg #[.int .i64 k, .int .i64 n], .agg #[.int .i64 l, .int .i64 m]] w fun e w' => e = .returned (.tuple #[.agg #[.int .i64 (subR k n l m).k, .int .i64 (subR k n l m).n], .bool (subR k n l m).ok]) ∧ Plus w w' := by
  go_enter Tryz.func102, Tryz.ntmps102
  go_wp2_with fail
  go_region_with (first | (go_at_call 74; refine (neg_c _ _ _).mono ?_; rintro e w1 ⟨rfl, ⟨x1, rfl⟩⟩) | (go_at_call 101; refine (add_c _ _ _ _ _).mono ?_; rintro e w1 ⟨rfl, ⟨x2, rfl⟩⟩))
  all_goals go_wp2_with fail
  all_goals go_returns
  all_goals refine ⟨rfl, ?_⟩
  all_goals (repeat' (first | exact Plus.refl _ | refine Plus.alloc ?_ _ | refine Plus.plus ?_ _ | refine Plus.drew ?_ | refine Plus.drewN ?_ _))

theorem word_h2 {k n x : Int} (h : Hid (wordR k n = x)) (w : World) : Calls Tryz.prog 137 #[.agg #[.int .i64 k, .int .i64 n]] w fun e w' => e = .returned (.int .u32 x) ∧ Plus w w' := by
  have := h.out
  subst this
  exact word_c k n w

set_option maxHeartbeats 1000000 in
theorem bit1_x (k n l m x y : Int) (hx : Hid (wordR k n = x)) (hy : Hid (wordR l m = y)) (hx0 : 0 ≤ x) (hx1 : x < 4294967296) (hy0 : 0 ≤ y) (hy1 : y < 4294967296) (w : World) :
    Calls Tryz.prog 75 #[.int .i64 1, .agg #[.int .i64 k, .int .i64 n], .agg #[.int .i64 l, .int .i64 m]] w fun e w' => e = .returned (.agg #[.int .i64 0, .int .i64 (bitN 1 x y)]) ∧ Plus w w' := by
  go_enter Tryz.func75, Tryz.ntmps75
  go_wp2_with (first | (go_at_call_of 137 (Value.agg #[.int .i64 k, .int .i64 n]); refine (word_h2 hx _).mono ?_; rintro e w1 ⟨rfl, ⟨x1, rfl⟩⟩) | (go_at_call_of 137 (Value.agg #[.int .i64 l, .int .i64 m]); refine (word_h2 hy _).mono ?_; rintro e w1 ⟨rfl, ⟨x1, rfl⟩⟩) | (go_at_call 138; refine (i32_c _ _ _).mono ?_; rintro e w1 ⟨rfl, ⟨x1, rfl⟩⟩) | (go_at_call 139; refine (u32_c _ _ _).mono ?_; rintro e w1 ⟨rfl, ⟨x1, rfl⟩⟩) | (go_at_call 140; refine (nan_c _).mono ?_; rintro e w1 ⟨rfl, ⟨x1, rfl⟩⟩))
  refine wp_region_plus (by kernel_rfl) (by kernel_rfl) ?_
  repeat (go_big_quiet_step ((first | (go_at_call_of 137 (Value.agg #[.int .i64 k, .int .i64 n]); exact calls_plus (word_h2 hx _)) | (go_at_call_of 137 (Value.agg #[.int .i64 l, .int .i64 m]); exact calls_plus (word_h2 hy _)))))
  refine wpQuiet_nil ?_
  intro _ hw'
  obtain ⟨x3, rfl⟩ := hw'
  go_wp2_with fail
  go_returns
  refine ⟨by rw [bit1_is hx0 hx1 hy0 hy1], ?_⟩
  repeat' (first | exact Plus.refl _ | refine Plus.alloc ?_ _ | refine Plus.plus ?_ _ | refine Plus.drew ?_ | refine Plus.drewN ?_ _)

set_option maxHeartbeats 1000000 in
theorem bit2_x (k n l m x y : Int) (hx : Hid (wordR k n = x)) (hy : Hid (wordR l m = y)) (hx0 : 0 ≤ x) (hx1 : x < 4294967296) (hy0 : 0 ≤ y) (hy1 : y < 4294967296) (w : World) :
    Calls Tryz.prog 75 #[.int .i64 2, .agg #[.int .i64 k, .int .i64 n], .agg #[.int .i64 l, .int .i64 m]] w fun e w' => e = .returned (.agg #[.int .i64 0, .int .i64 (bitN 2 x y)]) ∧ Plus w w' := by
  go_enter Tryz.func75, Tryz.ntmps75
  go_wp2_with (first | (go_at_call_of 137 (Value.agg #[.int .i64 k, .int .i64 n]); refine (word_h2 hx _).mono ?_; rintro e w1 ⟨rfl, ⟨x1, rfl⟩⟩) | (go_at_call_of 137 (Value.agg #[.int .i64 l, .int .i64 m]); refine (word_h2 hy _).mono ?_; rintro e w1 ⟨rfl, ⟨x1, rfl⟩⟩) | (go_at_call 138; refine (i32_c _ _ _).mono ?_; rintro e w1 ⟨rfl, ⟨x1, rfl⟩⟩) | (go_at_call 139; refine (u32_c _ _ _).mono ?_; rintro e w1 ⟨rfl, ⟨x1, rfl⟩⟩) | (go_at_call 140; refine (nan_c _).mono ?_; rintro e w1 ⟨rfl, ⟨x1, rfl⟩⟩))
  refine wp_region_plus (by kernel_rfl) (by kernel_rfl) ?_
  repeat (go_big_quiet_step ((first | (go_at_call_of 137 (Value.agg #[.int .i64 k, .int .i64 n]); exact calls_plus (word_h2 hx _)) | (go_at_call_of 137 (Value.agg #[.int .i64 l, .int .i64 m]); exact calls_plus (word_h2 hy _)))))
  refine wpQuiet_nil ?_
  intro _ hw'
  obtain ⟨x3, rfl⟩ := hw'
  go_wp2_with fail
  go_returns
  refine ⟨by rw [bit2_is hx0 hx1 hy0 hy1], ?_⟩
  repeat' (first | exact Plus.refl _ | refine Plus.alloc ?_ _ | refine Plus.plus ?_ _ | refine Plus.drew ?_ | refine Plus.drewN ?_ _)

set_option maxHeartbeats 1000000 in
theorem bit3_x (k n l m x y : Int) (hx : Hid (wordR k n = x)) (hy : Hid (wordR l m = y)) (hx0 : 0 ≤ x) (hx1 : x < 4294967296) (hy0 : 0 ≤ y) (hy1 : y < 4294967296) (w : World) :
    Calls Tryz.prog 75 #[.int .i64 3, .agg #[.int .i64 k, .int .i64 n], .agg #[.int .i64 l, .int .i64 m]] w fun e w' => e = .returned (.agg #[.int .i64 0, .int .i64 (bitN 3 x y)]) ∧ Plus w w' := by
  go_enter Tryz.func75, Tryz.ntmps75
  go_wp2_with (first | (go_at_call_of 137 (Value.agg #[.int .i64 k, .int .i64 n]); refine (word_h2 hx _).mono ?_; rintro e w1 ⟨rfl, ⟨x1, rfl⟩⟩) | (go_at_call_of 137 (Value.agg #[.int .i64 l, .int .i64 m]); refine (word_h2 hy _).mono ?_; rintro e w1 ⟨rfl, ⟨x1, rfl⟩⟩) | (go_at_call 138; refine (i32_c _ _ _).mono ?_; rintro e w1 ⟨rfl, ⟨x1, rfl⟩⟩) | (go_at_call 139; refine (u32_c _ _ _).mono ?_; rintro e w1 ⟨rfl, ⟨x1, rfl⟩⟩) | (go_at_call 140; refine (nan_c _).mono ?_; rintro e w1 ⟨rfl, ⟨x1, rfl⟩⟩))
  refine wp_region_plus (by kernel_rfl) (by kernel_rfl) ?_
  repeat (go_big_quiet_step ((first | (go_at_call_of 137 (Value.agg #[.int .i64 k, .int .i64 n]); exact calls_plus (word_h2 hx _)) | (go_at_call_of 137 (Value.agg #[.int .i64 l, .int .i64 m]); exact calls_plus (word_h2 hy _)))))
  refine wpQuiet_nil ?_
  intro _ hw'
  obtain ⟨x3, rfl⟩ := hw'
  go_wp2_with fail
  go_returns
  refine ⟨by rw [bit3_is hx0 hx1 hy0 hy1], ?_⟩
  repeat' (first | exact Plus.refl _ | refine Plus.alloc ?_ _ | refine Plus.plus ?_ _ | refine Plus.drew ?_ | refine Plus.drewN ?_ _)

set_option maxHeartbeats 1000000 in
theorem bit4_x (k n l m x y : Int) (hx : Hid (wordR k n = x)) (hy : Hid (wordR l m = y)) (_hx0 : 0 ≤ x) (_hx1 : x < 4294967296) (_hy0 : 0 ≤ y) (_hy1 : y < 4294967296) (w : World) :
    Calls Tryz.prog 75 #[.int .i64 4, .agg #[.int .i64 k, .int .i64 n], .agg #[.int .i64 l, .int .i64 m]] w fun e w' => e = .returned (.agg #[.int .i64 0, .int .i64 (bitN 4 x y)]) ∧ Plus w w' := by
  go_enter Tryz.func75, Tryz.ntmps75
  go_wp2_with (first | (go_at_call_of 137 (Value.agg #[.int .i64 k, .int .i64 n]); refine (word_h2 hx _).mono ?_; rintro e w1 ⟨rfl, ⟨x1, rfl⟩⟩) | (go_at_call_of 137 (Value.agg #[.int .i64 l, .int .i64 m]); refine (word_h2 hy _).mono ?_; rintro e w1 ⟨rfl, ⟨x1, rfl⟩⟩) | (go_at_call 138; refine (i32_c _ _ _).mono ?_; rintro e w1 ⟨rfl, ⟨x1, rfl⟩⟩) | (go_at_call 139; refine (u32_c _ _ _).mono ?_; rintro e w1 ⟨rfl, ⟨x1, rfl⟩⟩) | (go_at_call 140; refine (nan_c _).mono ?_; rintro e w1 ⟨rfl, ⟨x1, rfl⟩⟩))
  go_returns
  refine ⟨by rw [bit4_is x y], ?_⟩
  repeat' (first | exact Plus.refl _ | refine Plus.alloc ?_ _ | refine Plus.plus ?_ _ | refine Plus.drew ?_ | refine Plus.drewN ?_ _)

set_option maxHeartbeats 1000000 in
theorem bit5_x (k n l m x y : Int) (hx : Hid (wordR k n = x)) (hy : Hid (wordR l m = y)) (_hx0 : 0 ≤ x) (_hx1 : x < 4294967296) (_hy0 : 0 ≤ y) (_hy1 : y < 4294967296) (w : World) :
    Calls Tryz.prog 75 #[.int .i64 5, .agg #[.int .i64 k, .int .i64 n], .agg #[.int .i64 l, .int .i64 m]] w fun e w' => e = .returned (.agg #[.int .i64 0, .int .i64 (bitN 5 x y)]) ∧ Plus w w' := by
  go_enter Tryz.func75, Tryz.ntmps75
  go_wp2_with (first | (go_at_call_of 137 (Value.agg #[.int .i64 k, .int .i64 n]); refine (word_h2 hx _).mono ?_; rintro e w1 ⟨rfl, ⟨x1, rfl⟩⟩) | (go_at_call_of 137 (Value.agg #[.int .i64 l, .int .i64 m]); refine (word_h2 hy _).mono ?_; rintro e w1 ⟨rfl, ⟨x1, rfl⟩⟩) | (go_at_call 138; refine (i32_c _ _ _).mono ?_; rintro e w1 ⟨rfl, ⟨x1, rfl⟩⟩) | (go_at_call 139; refine (u32_c _ _ _).mono ?_; rintro e w1 ⟨rfl, ⟨x1, rfl⟩⟩) | (go_at_call 140; refine (nan_c _).mono ?_; rintro e w1 ⟨rfl, ⟨x1, rfl⟩⟩))
  go_returns
  refine ⟨by rw [sg_i32, hx.out, bitN5], ?_⟩
  repeat' (first | exact Plus.refl _ | refine Plus.alloc ?_ _ | refine Plus.plus ?_ _ | refine Plus.drew ?_ | refine Plus.drewN ?_ _)

set_option maxHeartbeats 1000000 in
theorem bit6_x (k n l m x y : Int) (hx : Hid (wordR k n = x)) (hy : Hid (wordR l m = y)) (_hx0 : 0 ≤ x) (_hx1 : x < 4294967296) (_hy0 : 0 ≤ y) (_hy1 : y < 4294967296) (w : World) :
    Calls Tryz.prog 75 #[.int .i64 6, .agg #[.int .i64 k, .int .i64 n], .agg #[.int .i64 l, .int .i64 m]] w fun e w' => e = .returned (.agg #[.int .i64 0, .int .i64 (bitN 6 x y)]) ∧ Plus w w' := by
  go_enter Tryz.func75, Tryz.ntmps75
  go_wp2_with (first | (go_at_call_of 137 (Value.agg #[.int .i64 k, .int .i64 n]); refine (word_h2 hx _).mono ?_; rintro e w1 ⟨rfl, ⟨x1, rfl⟩⟩) | (go_at_call_of 137 (Value.agg #[.int .i64 l, .int .i64 m]); refine (word_h2 hy _).mono ?_; rintro e w1 ⟨rfl, ⟨x1, rfl⟩⟩) | (go_at_call 138; refine (i32_c _ _ _).mono ?_; rintro e w1 ⟨rfl, ⟨x1, rfl⟩⟩) | (go_at_call 139; refine (u32_c _ _ _).mono ?_; rintro e w1 ⟨rfl, ⟨x1, rfl⟩⟩) | (go_at_call 140; refine (nan_c _).mono ?_; rintro e w1 ⟨rfl, ⟨x1, rfl⟩⟩))
  go_returns
  refine ⟨by rw [hx.out, bitN6], ?_⟩
  repeat' (first | exact Plus.refl _ | refine Plus.alloc ?_ _ | refine Plus.plus ?_ _ | refine Plus.drew ?_ | refine Plus.drewN ?_ _)

set_option maxHeartbeats 1000000 in
theorem bit0_x (op k n l m y : Int) (hy : Hid (wordR l m = y)) (_hy0 : 0 ≤ y) (_hy1 : y < 4294967296) (o1 : (op == 1) = false) (o2 : (op == 2) = false) (o3 : (op == 3) = false) (o4 : (op == 4) = false) (o5 : (op == 5) = false) (o6 : (op == 6) = false) (w : World) :
    Calls Tryz.prog 75 #[.int .i64 op, .agg #[.int .i64 k, .int .i64 n], .agg #[.int .i64 l, .int .i64 m]] w fun e w' => e = .returned (.agg #[.int .i64 2, .int .i64 0]) ∧ Plus w w' := by
  go_enter Tryz.func75, Tryz.ntmps75
  go_wp2_with (first | (go_at_call_of 137 (Value.agg #[.int .i64 l, .int .i64 m]); refine (word_h2 hy _).mono ?_; rintro e w1 ⟨rfl, ⟨x1, rfl⟩⟩) | (go_at_call 140; refine (nan_c _).mono ?_; rintro e w1 ⟨rfl, ⟨x1, rfl⟩⟩))
  go_returns
  refine ⟨rfl, ?_⟩
  repeat' (first | exact Plus.refl _ | refine Plus.alloc ?_ _ | refine Plus.plus ?_ _ | refine Plus.drew ?_ | refine Plus.drewN ?_ _)

theorem bit_c (op k n l m : Int) (w : World) : Calls Tryz.prog 75 #[.int .i64 op, .agg #[.int .i64 k, .int .i64 n], .agg #[.int .i64 l, .int .i64 m]] w fun e w' => e = .returned (.agg #[.int .i64 (bitR op k n l m).k, .int .i64 (bitR op k n l m).n]) ∧ Plus w w' := by
  obtain ⟨a1, a2⟩ := word_bd k n
  obtain ⟨b1, b2⟩ := word_bd l m
  by_cases h : op = 1 ∨ op = 2 ∨ op = 3 ∨ op = 4 ∨ op = 5 ∨ op = 6
  · have e : bitR op k n l m = ⟨0, bitN op (wordR k n) (wordR l m)⟩ := by unfold bitR; rw [if_pos h]
    rw [e]
    dsimp only
    rcases h with rfl | rfl | rfl | rfl | rfl | rfl
    · exact bit1_x k n l m _ _ rfl rfl a1 a2 b1 b2 w
    · exact bit2_x k n l m _ _ rfl rfl a1 a2 b1 b2 w
    · exact bit3_x k n l m _ _ rfl rfl a1 a2 b1 b2 w
    · exact bit4_x k n l m _ _ rfl rfl a1 a2 b1 b2 w
    · exact bit5_x k n l m _ _ rfl rfl a1 a2 b1 b2 w
    · exact bit6_x k n l m _ _ rfl rfl a1 a2 b1 b2 w
  · have e : bitR op k n l m = ⟨2, 0⟩ := by unfold bitR; rw [if_neg h]
    rw [e]
    dsimp only
    simp only [not_or] at h
    obtain ⟨o1, o2, o3, o4, o5, o6⟩ := h
    exact bit0_x op k n l m _ rfl b1 b2 (beq_f o1) (beq_f o2) (beq_f o3) (beq_f o4) (beq_f o5) (beq_f o6) w

end Go.Proofs.YtgljfgkkolfnbaaGreatDoor
