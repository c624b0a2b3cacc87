/- num: Mul. num: Rem. -/
import Derived.Test.YtgljfgkkolfnbaaGreatDoorQA
namespace Go.Proofs.YtgljfgkkolfnbaaGreatDoor
open Go.RowKit

theorem size_h {x u : Int} (h : Hid (absI x = u ∧ -9007199254740991 ≤ x ∧ x ≤ 9007199254740991)) (w : World) : Calls Tryz.prog 194 #[.int .i64 x] w fun e w' => e = .returned (.int .i64 u) ∧ Plus w w' := by
  obtain ⟨rfl, h1, h2⟩ := h.out
  exact size_c x h1 h2 w

theorem quo_is {v : Int} (h1 : 0 < v) : wrap64 (Int.tdiv 9007199254740991 v) = 9007199254740991 / v := by
  rw [Int.tdiv_eq_ediv_of_nonneg (by omega)]
  have d1 : 0 ≤ 9007199254740991 / v := Int.ediv_nonneg (by omega) (by omega)
  have d2 : 9007199254740991 / v ≤ 9007199254740991 := Int.ediv_le_self _ (by omega)
  exact IntWalk.wrap64_in _ (by omega)

theorem prod_n {q s u v : Int} (hq : absI q = u) (hs : absI s = v) (hv : ¬ v = 0) (h : wrap64 (Int.tdiv 9007199254740991 v) < u) : ofS (q * s) = ⟨2, 0, false⟩ := by
  subst hq hs
  have h0 : s ≠ 0 := fun e => hv (by rw [e]; rfl)
  rw [quo_is (absI_pos h0)] at h
  exact prod_out h0 h
theorem prod_y {q s u v : Int} (hq : absI q = u) (hs : absI s = v) (hv : ¬ v = 0) (h : u ≤ wrap64 (Int.tdiv 9007199254740991 v)) : wrap64 (q * s) = q * s := by
  subst hq hs
  have h0 : s ≠ 0 := fun e => hv (by rw [e]; rfl)
  rw [quo_is (absI_pos h0)] at h
  have := prod_in h0 (Int.not_lt.2 h)
  exact IntWalk.wrap64_in _ (by omega)

set_option maxHeartbeats 1000000 in
theorem prod_a (q s u v : Int) (hq : Hid (absI q = u ∧ -9007199254740991 ≤ q ∧ q ≤ 9007199254740991)) (hs : Hid (absI s = v ∧ -9007199254740991 ≤ s ∧ s ≤ 9007199254740991)) (v3 : ¬ v = 0) (w : World) :
    Calls Tryz.prog 163 #[.int .i64 q, .int .i64 s] w fun e w' => e = .returned (.tuple #[.agg #[.int .i64 (ofS (q * s)).k, .int .i64 (ofS (q * s)).n], .bool (ofS (q * s)).ok]) ∧ Plus w w' := by
    go_enter Tryz.func163, Tryz.ntmps163
    go_wp2_with (first | (go_at_call_of 194 (Value.int .i64 q); refine (size_h hq _).mono ?_; rintro e w1 ⟨rfl, ⟨x1, rfl⟩⟩) | (go_at_call_of 194 (Value.int .i64 s); refine (size_h hs _).mono ?_; rintro e w1 ⟨rfl, ⟨x2, rfl⟩⟩) | (go_at_call 140; refine (nan_c _).mono ?_; rintro e w1 ⟨rfl, ⟨x3, rfl⟩⟩) | (go_at_call 160; refine (of_c _ _).mono ?_; rintro e w1 ⟨rfl, ⟨x3, rfl⟩⟩))
    · have ht : wrap64 (Int.tdiv 9007199254740991 v) < u := by assumption
      rw [prod_n hq.out.1 hs.out.1 v3 ht]
      go_returns
      refine ⟨rfl, ?_⟩
      repeat' (first | exact Plus.refl _ | refine Plus.alloc ?_ _ | refine Plus.plus ?_ _ | refine Plus.drew ?_ | refine Plus.drewN ?_ _)
    · have ht : u ≤ wrap64 (Int.tdiv 9007199254740991 v) := by assumption
      have hy := prod_y hq.out.1 hs.out.1 v3 ht
      go_returns
      refine ⟨by rw [hy], ?_⟩
      repeat' (first | exact Plus.refl _ | refine Plus.alloc ?_ _ | refine Plus.plus ?_ _ | refine Plus.drew ?_ | refine Plus.drewN ?_ _)

theorem prod_c (q s : Int) (hq1 : -9007199254740991 ≤ q) (hq2 : q ≤ 9007199254740991) (hs0 : s ≠ 0) (hs1 : -9007199254740991 ≤ s) (hs2 : s ≤ 9007199254740991) (w : World) :
    Calls Tryz.prog 163 #[.int .i64 q, .int .i64 s] w fun e w' => e = .returned (.tuple #[.agg #[.int .i64 (ofS (q * s)).k, .int .i64 (ofS (q * s)).n], .bool (ofS (q * s)).ok]) ∧ Plus w w' :=
  prod_a q s _ _ ⟨rfl, hq1, hq2⟩ ⟨rfl, hs1, hs2⟩ (by have := absI_pos hs0; omega) w


set_option maxHeartbeats 4000000 in
theorem mul_h (k n l m p q r s : Int) (h1 : Hid (vk k n = p ∧ vn k n = q)) (h2 : Hid (vk l m = r ∧ vn l m = s)) (hp : Hid (IsV p q)) (hr : Hid (IsV r s)) (w : World) :
    Calls Tryz.prog 103 #[.agg #[.int .i64 k, .int .i64 n], .agg #[.int .i64 l, .int .i64 m]] w fun e w' => e = .returned (.tuple #[.agg #[.int .i64 (mulS p q r s).k, .int .i64 (mulS p q r s).n], .bool (mulS p q r s).ok]) ∧ Plus w w' := by
  go_enter Tryz.func103, Tryz.ntmps103
  go_upto_region 1 with fail
  go_cut [] (fun wx => ∃ x1 x2, wx = plus (plus (((w.alloc (.cells #[.int .i64 p, .int .i64 q] 23)).alloc (.cells #[.int .i64 r, .int .i64 s] 23)).alloc (.cells #[.int .i64 0, .int .i64 0] 23)) x1) x2)
  case first =>
    go_region_with (first | (go_at_call_of 128 (Value.agg #[.int .i64 k, .int .i64 n]); refine (valid_h h1 _).mono ?_; rintro e w1 ⟨rfl, ⟨x1, rfl⟩⟩) | (go_at_call_of 128 (Value.agg #[.int .i64 l, .int .i64 m]); refine (valid_h h2 _).mono ?_; rintro e w1 ⟨rfl, ⟨x1, rfl⟩⟩))
    all_goals (go_wp2_with fail; go_meet; exact ⟨_, _, rfl⟩)
  case rest =>
    obtain ⟨x1, x2, rfl⟩ := hcut
    have g1 := hp.out
    have g2 := hr.out
    clear h1 h2 hp hr
    go_wp2_with fail
    refine wp_region_plus (by kernel_rfl) (by kernel_rfl) ?_
    repeat (go_big_quiet_step ((go_at_call 161; exact calls_plus (isNeg_c _ _ _))))
    refine wpQuiet_nil ?_
    intro _ hw'
    obtain ⟨x3, rfl⟩ := hw'
    by_cases hp2 : p = 2
    · subst hp2
      go_wp2_with (first | (go_at_call 129; refine (isNaN_c _ _ _).mono ?_; rintro e w1 ⟨rfl, ⟨x1, rfl⟩⟩) | (go_at_call 159; refine (isInf_c _ _ _).mono ?_; rintro e w1 ⟨rfl, ⟨x1, rfl⟩⟩) | (go_at_call 162; refine (isZero_c _ _ _).mono ?_; rintro e w1 ⟨rfl, ⟨x1, rfl⟩⟩) | (go_at_call 140; refine (nan_c _).mono ?_; rintro e w1 ⟨rfl, ⟨x2, rfl⟩⟩) | (go_at_call 136; refine (infinity_c _ _).mono ?_; rintro e w1 ⟨rfl, ⟨x2, rfl⟩⟩) | (go_at_call 133; refine (zero_c _ _).mono ?_; rintro e w1 ⟨rfl, ⟨x2, rfl⟩⟩) | (go_at_call 163; refine (prod_c q s hq1 hq2 hs0 hs1 hs2 _).mono ?_; rintro e w1 ⟨rfl, ⟨x2, rfl⟩⟩))
      go_returns
      refine ⟨?_, ?_⟩
      · simp [mulS, zeroB]
      · repeat' (first | exact Plus.refl _ | refine Plus.alloc ?_ _ | refine Plus.plus ?_ _ | refine Plus.drew ?_ | refine Plus.drewN ?_ _)
    by_cases hr2 : r = 2
    · subst hr2
      have e2 := beq_f hp2
      go_wp2_with (first | (go_at_call 129; refine (isNaN_c _ _ _).mono ?_; rintro e w1 ⟨rfl, ⟨x1, rfl⟩⟩) | (go_at_call 159; refine (isInf_c _ _ _).mono ?_; rintro e w1 ⟨rfl, ⟨x1, rfl⟩⟩) | (go_at_call 162; refine (isZero_c _ _ _).mono ?_; rintro e w1 ⟨rfl, ⟨x1, rfl⟩⟩) | (go_at_call 140; refine (nan_c _).mono ?_; rintro e w1 ⟨rfl, ⟨x2, rfl⟩⟩) | (go_at_call 136; refine (infinity_c _ _).mono ?_; rintro e w1 ⟨rfl, ⟨x2, rfl⟩⟩) | (go_at_call 133; refine (zero_c _ _).mono ?_; rintro e w1 ⟨rfl, ⟨x2, rfl⟩⟩) | (go_at_call 163; refine (prod_c q s hq1 hq2 hs0 hs1 hs2 _).mono ?_; rintro e w1 ⟨rfl, ⟨x2, rfl⟩⟩))
      go_returns
      refine ⟨?_, ?_⟩
      · simp [mulS, zeroB]
      · repeat' (first | exact Plus.refl _ | refine Plus.alloc ?_ _ | refine Plus.plus ?_ _ | refine Plus.drew ?_ | refine Plus.drewN ?_ _)
    rcases isV6 g1 with ⟨rfl, rfl⟩ | ⟨rfl, hq0, hq1, hq2⟩ | ⟨rfl, rfl⟩ | ⟨rfl, rfl⟩ | ⟨rfl, rfl⟩ | ⟨rfl, rfl⟩ <;> rcases isV6 g2 with ⟨rfl, rfl⟩ | ⟨rfl, hs0, hs1, hs2⟩ | ⟨rfl, rfl⟩ | ⟨rfl, rfl⟩ | ⟨rfl, rfl⟩ | ⟨rfl, rfl⟩
    all_goals first | (exact absurd rfl hp2) | (exact absurd rfl hr2) | skip
    all_goals clear g1 g2 hp2 hr2
    all_goals first | (have hqb := beq_f hq0) | skip
    all_goals first | (have hsb := beq_f hs0) | skip
    all_goals go_wp2_with (first | (go_at_call 129; refine (isNaN_c _ _ _).mono ?_; rintro e w1 ⟨rfl, ⟨x1, rfl⟩⟩) | (go_at_call 159; refine (isInf_c _ _ _).mono ?_; rintro e w1 ⟨rfl, ⟨x1, rfl⟩⟩) | (go_at_call 162; refine (isZero_c _ _ _).mono ?_; rintro e w1 ⟨rfl, ⟨x1, rfl⟩⟩) | (go_at_call 140; refine (nan_c _).mono ?_; rintro e w1 ⟨rfl, ⟨x2, rfl⟩⟩) | (go_at_call 136; refine (infinity_c _ _).mono ?_; rintro e w1 ⟨rfl, ⟨x2, rfl⟩⟩) | (go_at_call 133; refine (zero_c _ _).mono ?_; rintro e w1 ⟨rfl, ⟨x2, rfl⟩⟩) | (go_at_call 163; refine (prod_c q s hq1 hq2 hs0 hs1 hs2 _).mono ?_; rintro e w1 ⟨rfl, ⟨x2, rfl⟩⟩))
    all_goals go_returns
    all_goals refine ⟨?_, ?_⟩
    all_goals first | (simp [mulS, zeroB, *]; done) | (with_reducible (repeat' (first | exact Plus.refl _ | refine Plus.alloc ?_ _ | refine Plus.plus ?_ _ | refine Plus.drew ?_ | refine Plus.drewN ?_ _)); done) | (simp_all [mulS, zeroB]; done) | (obtain ⟨t1, t2⟩ := tdiv_le s hq1 hq2; have e := IntWalk.wrap64_in (q.tdiv s) (by omega); clear t1 t2; simp_all [mulS, zeroB]; done) | skip
    all_goals go_show

theorem mul_c (k n l m : Int) (w : World) : Calls Tryz.prog 103 #[.agg #[.int .i64 k, .int .i64 n], .agg #[.int .i64 l, .int .i64 m]] w fun e w' => e = .returned (.tuple #[.agg #[.int .i64 (mulR k n l m).k, .int .i64 (mulR k n l m).n], .bool (mulR k n l m).ok]) ∧ Plus w w' :=
  mul_h k n l m _ _ _ _ ⟨rfl, rfl⟩ ⟨rfl, rfl⟩ (isV_v k n) (isV_v l m) w

end Go.Proofs.YtgljfgkkolfnbaaGreatDoor

namespace Go.Proofs.YtgljfgkkolfnbaaGreatDoor
open Go.RowKit

set_option maxHeartbeats 4000000 in
theorem rem_h (k n l m p q r s : Int) (h1 : Hid (vk k n = p ∧ vn k n = q)) (h2 : Hid (vk l m = r ∧ vn l m = s)) (hp : Hid (IsV p q)) (hr : Hid (IsV r s)) (w : World) :
    Calls Tryz.prog 105 #[.agg #[.int .i64 k, .int .i64 n], .agg #[.int .i64 l, .int .i64 m]] w fun e w' => e = .returned (.agg #[.int .i64 (remS p q r s).k, .int .i64 (remS p q r s).n]) ∧ Plus w w' := by
  go_enter Tryz.func105, Tryz.ntmps105
  go_upto_region 1 with fail
  go_cut [] (fun wx => ∃ x1 x2, wx = plus (plus (((w.alloc (.cells #[.int .i64 p, .int .i64 q] 23)).alloc (.cells #[.int .i64 r, .int .i64 s] 23)).alloc (.cells #[.int .i64 0, .int .i64 0] 23)) x1) x2)
  case first =>
    go_region_with (first | (go_at_call_of 128 (Value.agg #[.int .i64 k, .int .i64 n]); refine (valid_h h1 _).mono ?_; rintro e w1 ⟨rfl, ⟨x1, rfl⟩⟩) | (go_at_call_of 128 (Value.agg #[.int .i64 l, .int .i64 m]); refine (valid_h h2 _).mono ?_; rintro e w1 ⟨rfl, ⟨x1, rfl⟩⟩))
    all_goals (go_wp2_with fail; go_meet; exact ⟨_, _, rfl⟩)
  case rest =>
    obtain ⟨x1, x2, rfl⟩ := hcut
    have g1 := hp.out
    have g2 := hr.out
    clear h1 h2 hp hr
    by_cases hp2 : p = 2
    · subst hp2
      go_wp2_with (first | (go_at_call 129; refine (isNaN_c _ _ _).mono ?_; rintro e w1 ⟨rfl, ⟨x1, rfl⟩⟩) | (go_at_call 159; refine (isInf_c _ _ _).mono ?_; rintro e w1 ⟨rfl, ⟨x1, rfl⟩⟩) | (go_at_call 162; refine (isZero_c _ _ _).mono ?_; rintro e w1 ⟨rfl, ⟨x1, rfl⟩⟩) | (go_at_call 140; refine (nan_c _).mono ?_; rintro e w1 ⟨rfl, ⟨x2, rfl⟩⟩) | (go_at_call 136; refine (infinity_c _ _).mono ?_; rintro e w1 ⟨rfl, ⟨x2, rfl⟩⟩) | (go_at_call 133; refine (zero_c _ _).mono ?_; rintro e w1 ⟨rfl, ⟨x2, rfl⟩⟩) | (go_at_call 161; refine (isNeg_c _ _ _).mono ?_; rintro e w1 ⟨rfl, ⟨x2, rfl⟩⟩))
      go_returns
      refine ⟨?_, ?_⟩
      · simp [remS, zeroB]
      · repeat' (first | exact Plus.refl _ | refine Plus.alloc ?_ _ | refine Plus.plus ?_ _ | refine Plus.drew ?_ | refine Plus.drewN ?_ _)
    by_cases hr2 : r = 2
    · subst hr2
      have e2 := beq_f hp2
      go_wp2_with (first | (go_at_call 129; refine (isNaN_c _ _ _).mono ?_; rintro e w1 ⟨rfl, ⟨x1, rfl⟩⟩) | (go_at_call 159; refine (isInf_c _ _ _).mono ?_; rintro e w1 ⟨rfl, ⟨x1, rfl⟩⟩) | (go_at_call 162; refine (isZero_c _ _ _).mono ?_; rintro e w1 ⟨rfl, ⟨x1, rfl⟩⟩) | (go_at_call 140; refine (nan_c _).mono ?_; rintro e w1 ⟨rfl, ⟨x2, rfl⟩⟩) | (go_at_call 136; refine (infinity_c _ _).mono ?_; rintro e w1 ⟨rfl, ⟨x2, rfl⟩⟩) | (go_at_call 133; refine (zero_c _ _).mono ?_; rintro e w1 ⟨rfl, ⟨x2, rfl⟩⟩) | (go_at_call 161; refine (isNeg_c _ _ _).mono ?_; rintro e w1 ⟨rfl, ⟨x2, rfl⟩⟩))
      go_returns
      refine ⟨?_, ?_⟩
      · simp [remS, zeroB]
      · repeat' (first | exact Plus.refl _ | refine Plus.alloc ?_ _ | refine Plus.plus ?_ _ | refine Plus.drew ?_ | refine Plus.drewN ?_ _)
    rcases isV6 g1 with ⟨rfl, rfl⟩ | ⟨rfl, hq0, hq1, hq2⟩ | ⟨rfl, rfl⟩ | ⟨rfl, rfl⟩ | ⟨rfl, rfl⟩ | ⟨rfl, rfl⟩ <;> rcases isV6 g2 with ⟨rfl, rfl⟩ | ⟨rfl, hs0, hs1, hs2⟩ | ⟨rfl, rfl⟩ | ⟨rfl, rfl⟩ | ⟨rfl, rfl⟩ | ⟨rfl, rfl⟩
    all_goals first | (exact absurd rfl hp2) | (exact absurd rfl hr2) | skip
    all_goals clear g1 g2 hp2 hr2
    all_goals first | (have hqb := beq_f hq0) | skip
    all_goals first | (have hsb := beq_f hs0) | skip
    all_goals go_wp2_with (first | (go_at_call 129; refine (isNaN_c _ _ _).mono ?_; rintro e w1 ⟨rfl, ⟨x1, rfl⟩⟩) | (go_at_call 159; refine (isInf_c _ _ _).mono ?_; rintro e w1 ⟨rfl, ⟨x1, rfl⟩⟩) | (go_at_call 162; refine (isZero_c _ _ _).mono ?_; rintro e w1 ⟨rfl, ⟨x1, rfl⟩⟩) | (go_at_call 140; refine (nan_c _).mono ?_; rintro e w1 ⟨rfl, ⟨x2, rfl⟩⟩) | (go_at_call 136; refine (infinity_c _ _).mono ?_; rintro e w1 ⟨rfl, ⟨x2, rfl⟩⟩) | (go_at_call 133; refine (zero_c _ _).mono ?_; rintro e w1 ⟨rfl, ⟨x2, rfl⟩⟩) | (go_at_call 161; refine (isNeg_c _ _ _).mono ?_; rintro e w1 ⟨rfl, ⟨x2, rfl⟩⟩))
    all_goals go_returns
    all_goals refine ⟨?_, ?_⟩
    all_goals first | (simp [remS, zeroB, *]; done) | (with_reducible (repeat' (first | exact Plus.refl _ | refine Plus.alloc ?_ _ | refine Plus.plus ?_ _ | refine Plus.drew ?_ | refine Plus.drewN ?_ _)); done) | (simp_all [remS, zeroB]; done) | (obtain ⟨t1, t2⟩ := tdiv_le s hq1 hq2; have e := IntWalk.wrap64_in (q.tdiv s) (by omega); clear t1 t2; simp_all [remS, zeroB]; done) | skip
    all_goals go_show

theorem rem_c (k n l m : Int) (w : World) : Calls Tryz.prog 105 #[.agg #[.int .i64 k, .int .i64 n], .agg #[.int .i64 l, .int .i64 m]] w fun e w' => e = .returned (.agg #[.int .i64 (remR k n l m).k, .int .i64 (remR k n l m).n]) ∧ Plus w w' :=
  rem_h k n l m _ _ _ _ ⟨rfl, rfl⟩ ⟨rfl, rfl⟩ (isV_v k n) (isV_v l m) w

end Go.Proofs.YtgljfgkkolfnbaaGreatDoor
