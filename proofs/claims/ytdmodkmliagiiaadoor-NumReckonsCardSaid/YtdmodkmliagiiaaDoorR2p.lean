/- Contracts of the reference's product. -/
import Derived.Test.YtdmodkmliagiiaaDoorR1
import Derived.Test.YtdmodkmliagiiaaDoorB2p
namespace Go.Proofs.YtdmodkmliagiiaaDoor
open Go.RowKit

theorem tdiv_n {s : Int} (h : s < 0) : wrap64 (-Int.tdiv 9007199254740991 s) = 9007199254740991 / absI s := by
  have e : absI s = -s := by unfold absI; rw [if_pos h]
  rw [e, ← Int.tdiv_neg]
  exact quo_is (by omega)
theorem tdiv_p {s : Int} (h : 0 < s) : wrap64 (Int.tdiv 9007199254740991 s) = 9007199254740991 / absI s := by
  have e : absI s = s := by unfold absI; rw [if_neg (by omega)]
  rw [e]
  exact quo_is h
theorem tdiv_q {s : Int} (h : 0 < s) : 9007199254740991 / s = 9007199254740991 / absI s := by
  have e : absI s = s := by unfold absI; rw [if_neg (by omega)]
  rw [e]
theorem absI_n {q : Int} (h : q < 0) : -q = absI q := by unfold absI; rw [if_pos h]
theorem absI_p {q : Int} (h : 0 ≤ q) : q = absI q := by unfold absI; rw [if_neg (by omega)]
theorem out_of {q s x y : Int} (h0 : s ≠ 0) (hx : x = 9007199254740991 / absI s) (hy : y = absI q) (h : x < y) : ofS (q * s) = ⟨2, 0, false⟩ := by
  subst hx hy; exact prod_out h0 h
theorem in_of {q s x y : Int} (h0 : s ≠ 0) (hx : x = 9007199254740991 / absI s) (hy : y = absI q) (h : y ≤ x) : wrap64 (q * s) = q * s := by
  subst hx hy
  have := prod_in h0 (Int.not_lt.2 h)
  exact IntWalk.wrap64_in _ (by omega)
set_option maxHeartbeats 1000000 in
theorem rprod_nn (q s : Int) (hq1 : -9007199254740991 ≤ q) (hq2 : q ≤ 9007199254740991) (hs0 : ¬ s = 0) (hs1 : -9007199254740991 ≤ s) (hs2 : s ≤ 9007199254740991) (hq : q < 0) (hs : s < 0) (w : World) :
    Calls Tryd.prog 71 #[.int .i64 q, .int .i64 s] w fun e w' => e = .returned (.tuple #[.agg #[.int .i64 (ofS (q * s)).k, .int .i64 (ofS (q * s)).n], .bool (ofS (q * s)).ok]) ∧ Plus w w' := by
    go_enter Tryd.func71, Tryd.ntmps71
    go_wp2_with (first | (go_at_call 62; refine (rNaN_c _).mono ?_; rintro e w1 ⟨rfl, ⟨x3, rfl⟩⟩) | (go_at_call 51; refine (rof_c _ _).mono ?_; rintro e w1 ⟨rfl, ⟨x3, rfl⟩⟩))
    · have t : wrap64 (-Int.tdiv 9007199254740991 s) < -q := by assumption
      rw [out_of hs0 (tdiv_n hs) (absI_n hq) t]
      go_returns
      refine ⟨rfl, ?_⟩
      repeat' (first | exact Plus.refl _ | refine Plus.alloc ?_ _ | refine Plus.plus ?_ _ | refine Plus.drew ?_ | refine Plus.drewN ?_ _)
    · have t : -q ≤ wrap64 (-Int.tdiv 9007199254740991 s) := by assumption
      have hy := in_of hs0 (tdiv_n hs) (absI_n hq) t
      go_returns
      refine ⟨by rw [hy], ?_⟩
      repeat' (first | exact Plus.refl _ | refine Plus.alloc ?_ _ | refine Plus.plus ?_ _ | refine Plus.drew ?_ | refine Plus.drewN ?_ _)
set_option maxHeartbeats 1000000 in
theorem rprod_np (q s : Int) (hq1 : -9007199254740991 ≤ q) (hq2 : q ≤ 9007199254740991) (hs0 : ¬ s = 0) (hs1 : -9007199254740991 ≤ s) (hs2 : s ≤ 9007199254740991) (hq : q < 0) (hs : 0 < s) (w : World) :
    Calls Tryd.prog 71 #[.int .i64 q, .int .i64 s] w fun e w' => e = .returned (.tuple #[.agg #[.int .i64 (ofS (q * s)).k, .int .i64 (ofS (q * s)).n], .bool (ofS (q * s)).ok]) ∧ Plus w w' := by
    go_enter Tryd.func71, Tryd.ntmps71
    go_wp2_with (first | (go_at_call 62; refine (rNaN_c _).mono ?_; rintro e w1 ⟨rfl, ⟨x3, rfl⟩⟩) | (go_at_call 51; refine (rof_c _ _).mono ?_; rintro e w1 ⟨rfl, ⟨x3, rfl⟩⟩))
    · have t : 9007199254740991 / s < -q := by assumption
      rw [out_of hs0 (tdiv_q hs) (absI_n hq) t]
      go_returns
      refine ⟨rfl, ?_⟩
      repeat' (first | exact Plus.refl _ | refine Plus.alloc ?_ _ | refine Plus.plus ?_ _ | refine Plus.drew ?_ | refine Plus.drewN ?_ _)
    · have t : -q ≤ 9007199254740991 / s := by assumption
      have hy := in_of hs0 (tdiv_q hs) (absI_n hq) t
      go_returns
      refine ⟨by rw [hy], ?_⟩
      repeat' (first | exact Plus.refl _ | refine Plus.alloc ?_ _ | refine Plus.plus ?_ _ | refine Plus.drew ?_ | refine Plus.drewN ?_ _)
set_option maxHeartbeats 1000000 in
theorem rprod_pn (q s : Int) (hq1 : -9007199254740991 ≤ q) (hq2 : q ≤ 9007199254740991) (hs0 : ¬ s = 0) (hs1 : -9007199254740991 ≤ s) (hs2 : s ≤ 9007199254740991) (hq : 0 ≤ q) (hs : s < 0) (w : World) :
    Calls Tryd.prog 71 #[.int .i64 q, .int .i64 s] w fun e w' => e = .returned (.tuple #[.agg #[.int .i64 (ofS (q * s)).k, .int .i64 (ofS (q * s)).n], .bool (ofS (q * s)).ok]) ∧ Plus w w' := by
    go_enter Tryd.func71, Tryd.ntmps71
    go_wp2_with (first | (go_at_call 62; refine (rNaN_c _).mono ?_; rintro e w1 ⟨rfl, ⟨x3, rfl⟩⟩) | (go_at_call 51; refine (rof_c _ _).mono ?_; rintro e w1 ⟨rfl, ⟨x3, rfl⟩⟩))
    · have t : wrap64 (-Int.tdiv 9007199254740991 s) < q := by assumption
      rw [out_of hs0 (tdiv_n hs) (absI_p hq) t]
      go_returns
      refine ⟨rfl, ?_⟩
      repeat' (first | exact Plus.refl _ | refine Plus.alloc ?_ _ | refine Plus.plus ?_ _ | refine Plus.drew ?_ | refine Plus.drewN ?_ _)
    · have t : q ≤ wrap64 (-Int.tdiv 9007199254740991 s) := by assumption
      have hy := in_of hs0 (tdiv_n hs) (absI_p hq) t
      go_returns
      refine ⟨by rw [hy], ?_⟩
      repeat' (first | exact Plus.refl _ | refine Plus.alloc ?_ _ | refine Plus.plus ?_ _ | refine Plus.drew ?_ | refine Plus.drewN ?_ _)
set_option maxHeartbeats 1000000 in
theorem rprod_pp (q s : Int) (hq1 : -9007199254740991 ≤ q) (hq2 : q ≤ 9007199254740991) (hs0 : ¬ s = 0) (hs1 : -9007199254740991 ≤ s) (hs2 : s ≤ 9007199254740991) (hq : 0 ≤ q) (hs : 0 < s) (w : World) :
    Calls Tryd.prog 71 #[.int .i64 q, .int .i64 s] w fun e w' => e = .returned (.tuple #[.agg #[.int .i64 (ofS (q * s)).k, .int .i64 (ofS (q * s)).n], .bool (ofS (q * s)).ok]) ∧ Plus w w' := by
    go_enter Tryd.func71, Tryd.ntmps71
    go_wp2_with (first | (go_at_call 62; refine (rNaN_c _).mono ?_; rintro e w1 ⟨rfl, ⟨x3, rfl⟩⟩) | (go_at_call 51; refine (rof_c _ _).mono ?_; rintro e w1 ⟨rfl, ⟨x3, rfl⟩⟩))
    · have t : 9007199254740991 / s < q := by assumption
      rw [out_of hs0 (tdiv_q hs) (absI_p hq) t]
      go_returns
      refine ⟨rfl, ?_⟩
      repeat' (first | exact Plus.refl _ | refine Plus.alloc ?_ _ | refine Plus.plus ?_ _ | refine Plus.drew ?_ | refine Plus.drewN ?_ _)
    · have t : q ≤ 9007199254740991 / s := by assumption
      have hy := in_of hs0 (tdiv_q hs) (absI_p hq) t
      go_returns
      refine ⟨by rw [hy], ?_⟩
      repeat' (first | exact Plus.refl _ | refine Plus.alloc ?_ _ | refine Plus.plus ?_ _ | refine Plus.drew ?_ | refine Plus.drewN ?_ _)
theorem rprod_c (q s : Int) (hq1 : -9007199254740991 ≤ q) (hq2 : q ≤ 9007199254740991) (hs0 : s ≠ 0) (hs1 : -9007199254740991 ≤ s) (hs2 : s ≤ 9007199254740991) (w : World) :
    Calls Tryd.prog 71 #[.int .i64 q, .int .i64 s] w fun e w' => e = .returned (.tuple #[.agg #[.int .i64 (ofS (q * s)).k, .int .i64 (ofS (q * s)).n], .bool (ofS (q * s)).ok]) ∧ Plus w w' := by
  by_cases hq : q < 0 <;> by_cases hs : s < 0
  · exact rprod_nn q s hq1 hq2 hs0 hs1 hs2 hq hs w
  · exact rprod_np q s hq1 hq2 hs0 hs1 hs2 hq (by omega) w
  · exact rprod_pn q s hq1 hq2 hs0 hs1 hs2 (by omega) hs w
  · exact rprod_pp q s hq1 hq2 hs0 hs1 hs2 (by omega) (by omega) w
end Go.Proofs.YtdmodkmliagiiaaDoor
