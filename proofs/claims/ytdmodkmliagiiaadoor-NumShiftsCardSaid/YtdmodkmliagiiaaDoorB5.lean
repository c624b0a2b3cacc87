/- Contracts of num.Neg, Whole, word. -/
import Derived.Test.YtdmodkmliagiiaaDoorA
namespace Go.Proofs.YtdmodkmliagiiaaDoor
open Go.RowKit

set_option maxHeartbeats 2000000 in
theorem neg_h {k n p q : Int} (h1 : Hid (vk k n = p ∧ vn k n = q)) (hp : Hid (IsV p q)) (w : World) :
    Calls Tryd.prog 30 #[.agg #[.int .i64 k, .int .i64 n]] w fun e w' => e = .returned (.agg #[.int .i64 (negS p q).k, .int .i64 (negS p q).n]) ∧ Plus w w' := by
  have g1 := hp.out
  clear hp
  rcases isV6 g1 with ⟨rfl, rfl⟩ | ⟨rfl, hq0, hq1, hq2⟩ | ⟨rfl, rfl⟩ | ⟨rfl, rfl⟩ | ⟨rfl, rfl⟩ | ⟨rfl, rfl⟩
  all_goals clear g1
  all_goals first | (have hqb := beq_f hq0) | skip
  all_goals go_enter Tryd.func30, Tryd.ntmps30
  all_goals go_wp2_with (first | (go_at_call 55; refine (valid_h h1 _).mono ?_; rintro e w1 ⟨rfl, ⟨x0, rfl⟩⟩) | (go_at_call 65; refine (infinity_c _ _).mono ?_; rintro e w1 ⟨rfl, ⟨x2, rfl⟩⟩) | (go_at_call 66; refine (zero_c _ _).mono ?_; rintro e w1 ⟨rfl, ⟨x2, rfl⟩⟩))
  all_goals go_returns
  all_goals refine ⟨?_, ?_⟩
  all_goals first | (simp [negS, zeroK, infK, *]; done) | (with_reducible (repeat' (first | exact Plus.refl _ | refine Plus.alloc ?_ _ | refine Plus.plus ?_ _ | refine Plus.drew ?_ | refine Plus.drewN ?_ _)); done) | (simp_all [negS, zeroK, infK]; done) | skip
  all_goals go_show

theorem neg_c (k n : Int) (w : World) : Calls Tryd.prog 30 #[.agg #[.int .i64 k, .int .i64 n]] w fun e w' => e = .returned (.agg #[.int .i64 (negR k n).k, .int .i64 (negR k n).n]) ∧ Plus w w' :=
  neg_h ⟨rfl, rfl⟩ (isV_v k n) w

set_option maxHeartbeats 2000000 in
theorem whole_h {k n p q : Int} (h1 : Hid (vk k n = p ∧ vn k n = q)) (hp : Hid (IsV p q)) (w : World) :
    Calls Tryd.prog 44 #[.agg #[.int .i64 k, .int .i64 n]] w fun e w' => e = .returned (.agg #[.int .i64 (wholeS p q).k, .int .i64 (wholeS p q).n]) ∧ Plus w w' := by
  have g1 := hp.out
  clear hp
  rcases g1 with ⟨rfl, hq1, hq2⟩ | ⟨rfl, rfl⟩ | ⟨rfl, rfl⟩ | ⟨rfl, rfl⟩ | ⟨rfl, rfl⟩
  all_goals go_enter Tryd.func44, Tryd.ntmps44
  all_goals go_wp2_with (first | (go_at_call 55; refine (valid_h h1 _).mono ?_; rintro e w1 ⟨rfl, ⟨x0, rfl⟩⟩) | (go_at_call 66; refine (zero_c _ _).mono ?_; rintro e w1 ⟨rfl, ⟨x2, rfl⟩⟩))
  all_goals go_returns
  all_goals refine ⟨?_, ?_⟩
  all_goals first | (simp [wholeS, zeroK, *]; done) | (with_reducible (repeat' (first | exact Plus.refl _ | refine Plus.alloc ?_ _ | refine Plus.plus ?_ _ | refine Plus.drew ?_ | refine Plus.drewN ?_ _)); done) | (simp_all [wholeS, zeroK]; done) | skip
  all_goals go_show

theorem whole_c (k n : Int) (w : World) : Calls Tryd.prog 44 #[.agg #[.int .i64 k, .int .i64 n]] w fun e w' => e = .returned (.agg #[.int .i64 (wholeR k n).k, .int .i64 (wholeR k n).n]) ∧ Plus w w' :=
  whole_h ⟨rfl, rfl⟩ (isV_v k n) w

set_option maxHeartbeats 2000000 in
theorem word_h {k n p q : Int} (h1 : Hid (vk k n = p ∧ vn k n = q)) (hp : Hid (IsV p q)) (w : World) :
    Calls Tryd.prog 75 #[.agg #[.int .i64 k, .int .i64 n]] w fun e w' => e = .returned (.int .u32 (wordS p q)) ∧ Plus w w' := by
  have g1 := hp.out
  clear hp
  rcases g1 with ⟨rfl, hq1, hq2⟩ | ⟨rfl, rfl⟩ | ⟨rfl, rfl⟩ | ⟨rfl, rfl⟩ | ⟨rfl, rfl⟩
  all_goals go_enter Tryd.func75, Tryd.ntmps75
  all_goals go_wp2_with (first | (go_at_call 55; refine (valid_h h1 _).mono ?_; rintro e w1 ⟨rfl, ⟨x0, rfl⟩⟩))
  all_goals go_returns
  all_goals refine ⟨?_, ?_⟩
  all_goals first | (simp [wordS, *]; done) | (with_reducible (repeat' (first | exact Plus.refl _ | refine Plus.alloc ?_ _ | refine Plus.plus ?_ _ | refine Plus.drew ?_ | refine Plus.drewN ?_ _)); done) | (simp_all [wordS]; done) | skip
  all_goals go_show

theorem word_c (k n : Int) (w : World) : Calls Tryd.prog 75 #[.agg #[.int .i64 k, .int .i64 n]] w fun e w' => e = .returned (.int .u32 (wordR k n)) ∧ Plus w w' :=
  word_h ⟨rfl, rfl⟩ (isV_v k n) w

end Go.Proofs.YtdmodkmliagiiaaDoor
