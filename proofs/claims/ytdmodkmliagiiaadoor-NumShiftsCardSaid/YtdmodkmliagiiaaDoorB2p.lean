/- Contracts of num's product. -/
import Derived.Test.YtdmodkmliagiiaaDoorA
namespace Go.Proofs.YtdmodkmliagiiaaDoor
open Go.RowKit

theorem size_h {x u : Int} (h : Hid (absI x = u ∧ -9007199254740991 ≤ x ∧ x ≤ 9007199254740991)) (w : World) : Calls Tryd.prog 79 #[.int .i64 x] w fun e w' => e = .returned (.int .i64 u) ∧ Plus w w' := by
  obtain ⟨rfl, h1, h2⟩ := h.out
  exact size_c x h1 h2 w

theorem quo_is {v : Int} (h1 : 0 < v) : wrap64 (Int.tdiv 9007199254740991 v) = 9007199254740991 / v := by
  rw [Int.tdiv_eq_ediv_of_nonneg (by omega)]
  have d1 : 0 ≤ 9007199254740991 / v := Int.ediv_nonneg (by omega) (by omega)
  have d2 : 9007199254740991 / v ≤ 9007199254740991 := Int.ediv_le_self _ (by omega)
  exact IntWalk.wrap64_in _ (by omega)

theorem prod_n {q s u v : Int} (hq : absI q = u) (hs : absI s = v) (hv : ¬ v = 0) (h : wrap64 (Int.tdiv 9007199254740991 v) < u) : ofS (q * s) = ⟨2, 0, false⟩ := by
  subst hq hs
  have h0 : s ≠ 0 := fun e => hv (by rw [e]; rfl)
  rw [quo_is (absI_pos h0)] at h
  exact prod_out h0 h
theorem prod_y {q s u v : Int} (hq : absI q = u) (hs : absI s = v) (hv : ¬ v = 0) (h : u ≤ wrap64 (Int.tdiv 9007199254740991 v)) : wrap64 (q * s) = q * s := by
  subst hq hs
  have h0 : s ≠ 0 := fun e => hv (by rw [e]; rfl)
  rw [quo_is (absI_pos h0)] at h
  have := prod_in h0 (Int.not_lt.2 h)
  exact IntWalk.wrap64_in _ (by omega)

set_option maxHeartbeats 1000000 in
theorem prod_a (q s u v : Int) (hq : Hid (absI q = u ∧ -9007199254740991 ≤ q ∧ q ≤ 9007199254740991)) (hs : Hid (absI s = v ∧ -9007199254740991 ≤ s ∧ s ≤ 9007199254740991)) (v3 : ¬ v = 0) (w : World) :
    Calls Tryd.prog 67 #[.int .i64 q, .int .i64 s] w fun e w' => e = .returned (.tuple #[.agg #[.int .i64 (ofS (q * s)).k, .int .i64 (ofS (q * s)).n], .bool (ofS (q * s)).ok]) ∧ Plus w w' := by
    go_enter Tryd.func67, Tryd.ntmps67
    go_wp2_with (first | (go_at_call_of 79 (Value.int .i64 q); refine (size_h hq _).mono ?_; rintro e w1 ⟨rfl, ⟨x1, rfl⟩⟩) | (go_at_call_of 79 (Value.int .i64 s); refine (size_h hs _).mono ?_; rintro e w1 ⟨rfl, ⟨x2, rfl⟩⟩) | (go_at_call 58; refine (nan_c _).mono ?_; rintro e w1 ⟨rfl, ⟨x3, rfl⟩⟩) | (go_at_call 50; refine (of_c _ _).mono ?_; rintro e w1 ⟨rfl, ⟨x3, rfl⟩⟩))
    · have ht : wrap64 (Int.tdiv 9007199254740991 v) < u := by assumption
      rw [prod_n hq.out.1 hs.out.1 v3 ht]
      go_returns
      refine ⟨rfl, ?_⟩
      repeat' (first | exact Plus.refl _ | refine Plus.alloc ?_ _ | refine Plus.plus ?_ _ | refine Plus.drew ?_ | refine Plus.drewN ?_ _)
    · have ht : u ≤ wrap64 (Int.tdiv 9007199254740991 v) := by assumption
      have hy := prod_y hq.out.1 hs.out.1 v3 ht
      go_returns
      refine ⟨by rw [hy], ?_⟩
      repeat' (first | exact Plus.refl _ | refine Plus.alloc ?_ _ | refine Plus.plus ?_ _ | refine Plus.drew ?_ | refine Plus.drewN ?_ _)

theorem prod_c (q s : Int) (hq1 : -9007199254740991 ≤ q) (hq2 : q ≤ 9007199254740991) (hs0 : s ≠ 0) (hs1 : -9007199254740991 ≤ s) (hs2 : s ≤ 9007199254740991) (w : World) :
    Calls Tryd.prog 67 #[.int .i64 q, .int .i64 s] w fun e w' => e = .returned (.tuple #[.agg #[.int .i64 (ofS (q * s)).k, .int .i64 (ofS (q * s)).n], .bool (ofS (q * s)).ok]) ∧ Plus w w' :=
  prod_a q s _ _ ⟨rfl, hq1, hq2⟩ ⟨rfl, hs1, hs2⟩ (by have := absI_pos hs0; omega) w

end Go.Proofs.YtdmodkmliagiiaaDoor
