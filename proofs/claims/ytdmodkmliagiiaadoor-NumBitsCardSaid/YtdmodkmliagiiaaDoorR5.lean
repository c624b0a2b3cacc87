/- Contracts of the reference's Neg, Whole, Uint32, Int32, Index, Same. -/
import Derived.Test.YtdmodkmliagiiaaDoorS3
import Derived.Test.YtdmodkmliagiiaaDoorR1
namespace Go.Proofs.YtdmodkmliagiiaaDoor
open Go.RowKit

set_option maxHeartbeats 2000000 in
theorem rneg_h {k n p q : Int} (h1 : Hid (vk k n = p ∧ vn k n = q)) (hp : Hid (IsV p q)) (w : World) :
    Calls Tryd.prog 31 #[.agg #[.int .i64 k, .int .i64 n]] w fun e w' => e = .returned (.agg #[.int .i64 (negS p q).k, .int .i64 (negS p q).n]) ∧ Plus w w' := by
  have g1 := hp.out
  clear hp
  rcases isV6 g1 with ⟨rfl, rfl⟩ | ⟨rfl, hq0, hq1, hq2⟩ | ⟨rfl, rfl⟩ | ⟨rfl, rfl⟩ | ⟨rfl, rfl⟩ | ⟨rfl, rfl⟩
  all_goals clear g1
  all_goals first | (have hqb := beq_f hq0) | skip
  all_goals go_enter Tryd.func31, Tryd.ntmps31
  all_goals go_wp2_with (first | (go_at_call 59; refine (rgood_h h1 _).mono ?_; rintro e w1 ⟨rfl, ⟨x0, rfl⟩⟩) | (go_at_call 60; refine (rnan_c _ _ _).mono ?_; rintro e w1 ⟨rfl, ⟨x1, rfl⟩⟩) | (go_at_call 61; refine (rinf_c _ _ _).mono ?_; rintro e w1 ⟨rfl, ⟨x1, rfl⟩⟩) | (go_at_call 69; refine (rnought_c _ _ _).mono ?_; rintro e w1 ⟨rfl, ⟨x1, rfl⟩⟩))
  all_goals try (go_region_with (first | (go_at_call 61; refine (rinf_c _ _ _).mono ?_; rintro e w1 ⟨rfl, ⟨x1, rfl⟩⟩) | (go_at_call 68; refine (rbelow_c _ _ _).mono ?_; rintro e w1 ⟨rfl, ⟨x1, rfl⟩⟩) | (go_at_call 70; refine (rsigned_c _ _ _).mono ?_; rintro e w1 ⟨rfl, ⟨x1, rfl⟩⟩)))
  all_goals go_wp2_with fail
  all_goals go_returns
  all_goals refine ⟨?_, ?_⟩
  all_goals first | (simp [negS, zeroK, infK, negB, *]; done) | (with_reducible (repeat' (first | exact Plus.refl _ | refine Plus.alloc ?_ _ | refine Plus.plus ?_ _ | refine Plus.drew ?_ | refine Plus.drewN ?_ _)); done) | (simp_all [negS, zeroK, infK, negB]; done) | skip
  all_goals go_show

theorem rneg_c (k n : Int) (w : World) : Calls Tryd.prog 31 #[.agg #[.int .i64 k, .int .i64 n]] w fun e w' => e = .returned (.agg #[.int .i64 (negR k n).k, .int .i64 (negR k n).n]) ∧ Plus w w' :=
  rneg_h ⟨rfl, rfl⟩ (isV_v k n) w

set_option maxHeartbeats 2000000 in
theorem rwhole_h {k n p q : Int} (h1 : Hid (vk k n = p ∧ vn k n = q)) (hp : Hid (IsV p q)) (w : World) :
    Calls Tryd.prog 45 #[.agg #[.int .i64 k, .int .i64 n]] w fun e w' => e = .returned (.agg #[.int .i64 (wholeS p q).k, .int .i64 (wholeS p q).n]) ∧ Plus w w' := by
  have g1 := hp.out
  clear hp
  rcases g1 with ⟨rfl, hq1, hq2⟩ | ⟨rfl, rfl⟩ | ⟨rfl, rfl⟩ | ⟨rfl, rfl⟩ | ⟨rfl, rfl⟩
  all_goals go_enter Tryd.func45, Tryd.ntmps45
  all_goals go_wp2_with (first | (go_at_call 59; refine (rgood_h h1 _).mono ?_; rintro e w1 ⟨rfl, ⟨x0, rfl⟩⟩) | (go_at_call 60; refine (rnan_c _ _ _).mono ?_; rintro e w1 ⟨rfl, ⟨x1, rfl⟩⟩))
  all_goals go_returns
  all_goals refine ⟨?_, ?_⟩
  all_goals first | (simp [wholeS, *]; done) | (with_reducible (repeat' (first | exact Plus.refl _ | refine Plus.alloc ?_ _ | refine Plus.plus ?_ _ | refine Plus.drew ?_ | refine Plus.drewN ?_ _)); done) | (simp_all [wholeS]; done) | skip
  all_goals go_show

theorem rwhole_c (k n : Int) (w : World) : Calls Tryd.prog 45 #[.agg #[.int .i64 k, .int .i64 n]] w fun e w' => e = .returned (.agg #[.int .i64 (wholeR k n).k, .int .i64 (wholeR k n).n]) ∧ Plus w w' :=
  rwhole_h ⟨rfl, rfl⟩ (isV_v k n) w
end Go.Proofs.YtdmodkmliagiiaaDoor
