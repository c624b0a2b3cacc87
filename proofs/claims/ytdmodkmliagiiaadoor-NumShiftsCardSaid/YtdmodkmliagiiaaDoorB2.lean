/- Contracts of Mul (). -/
import Derived.Test.YtdmodkmliagiiaaDoorB2p
namespace Go.Proofs.YtdmodkmliagiiaaDoor
open Go.RowKit

set_option maxHeartbeats 4000000 in
theorem mul_h (k n l m p q r s : Int) (h1 : Hid (vk k n = p ∧ vn k n = q)) (h2 : Hid (vk l m = r ∧ vn l m = s)) (hp : Hid (IsV p q)) (hr : Hid (IsV r s)) (w : World) :
    Calls Tryd.prog 20 #[.agg #[.int .i64 k, .int .i64 n], .agg #[.int .i64 l, .int .i64 m]] w fun e w' => e = .returned (.tuple #[.agg #[.int .i64 (mulS p q r s).k, .int .i64 (mulS p q r s).n], .bool (mulS p q r s).ok]) ∧ Plus w w' := by
  go_enter Tryd.func20, Tryd.ntmps20
  go_upto_region 1 with fail
  go_cut [] (fun wx => ∃ x1 x2, wx = plus (plus (((w.alloc (.cells #[.int .i64 p, .int .i64 q] 23)).alloc (.cells #[.int .i64 r, .int .i64 s] 23)).alloc (.cells #[.int .i64 0, .int .i64 0] 23)) x1) x2)
  case first =>
    go_region_with (first | (go_at_call_of 55 (Value.agg #[.int .i64 k, .int .i64 n]); refine (valid_h h1 _).mono ?_; rintro e w1 ⟨rfl, ⟨x1, rfl⟩⟩) | (go_at_call_of 55 (Value.agg #[.int .i64 l, .int .i64 m]); refine (valid_h h2 _).mono ?_; rintro e w1 ⟨rfl, ⟨x1, rfl⟩⟩))
    all_goals (go_wp2_with fail; go_meet; exact ⟨_, _, rfl⟩)
  case rest =>
    obtain ⟨x1, x2, rfl⟩ := hcut
    have g1 := hp.out
    have g2 := hr.out
    clear h1 h2 hp hr
    go_wp2_with fail
    refine wp_region_plus (by kernel_rfl) (by kernel_rfl) ?_
    repeat (go_big_quiet_step ((go_at_call 63; exact calls_plus (isNeg_c _ _ _))))
    refine wpQuiet_nil ?_
    intro _ hw'
    obtain ⟨x3, rfl⟩ := hw'
    by_cases hp2 : p = 2
    · subst hp2
      go_wp2_with (first | (go_at_call 56; refine (isNaN_c _ _ _).mono ?_; rintro e w1 ⟨rfl, ⟨x1, rfl⟩⟩) | (go_at_call 57; refine (isInf_c _ _ _).mono ?_; rintro e w1 ⟨rfl, ⟨x1, rfl⟩⟩) | (go_at_call 64; refine (isZero_c _ _ _).mono ?_; rintro e w1 ⟨rfl, ⟨x1, rfl⟩⟩) | (go_at_call 58; refine (nan_c _).mono ?_; rintro e w1 ⟨rfl, ⟨x2, rfl⟩⟩) | (go_at_call 65; refine (infinity_c _ _).mono ?_; rintro e w1 ⟨rfl, ⟨x2, rfl⟩⟩) | (go_at_call 66; refine (zero_c _ _).mono ?_; rintro e w1 ⟨rfl, ⟨x2, rfl⟩⟩) | (go_at_call 67; refine (prod_c q s hq1 hq2 hs0 hs1 hs2 _).mono ?_; rintro e w1 ⟨rfl, ⟨x2, rfl⟩⟩))
      go_returns
      refine ⟨?_, ?_⟩
      · simp [mulS, zeroB]
      · repeat' (first | exact Plus.refl _ | refine Plus.alloc ?_ _ | refine Plus.plus ?_ _ | refine Plus.drew ?_ | refine Plus.drewN ?_ _)
    by_cases hr2 : r = 2
    · subst hr2
      have e2 := beq_f hp2
      go_wp2_with (first | (go_at_call 56; refine (isNaN_c _ _ _).mono ?_; rintro e w1 ⟨rfl, ⟨x1, rfl⟩⟩) | (go_at_call 57; refine (isInf_c _ _ _).mono ?_; rintro e w1 ⟨rfl, ⟨x1, rfl⟩⟩) | (go_at_call 64; refine (isZero_c _ _ _).mono ?_; rintro e w1 ⟨rfl, ⟨x1, rfl⟩⟩) | (go_at_call 58; refine (nan_c _).mono ?_; rintro e w1 ⟨rfl, ⟨x2, rfl⟩⟩) | (go_at_call 65; refine (infinity_c _ _).mono ?_; rintro e w1 ⟨rfl, ⟨x2, rfl⟩⟩) | (go_at_call 66; refine (zero_c _ _).mono ?_; rintro e w1 ⟨rfl, ⟨x2, rfl⟩⟩) | (go_at_call 67; refine (prod_c q s hq1 hq2 hs0 hs1 hs2 _).mono ?_; rintro e w1 ⟨rfl, ⟨x2, rfl⟩⟩))
      go_returns
      refine ⟨?_, ?_⟩
      · simp [mulS, zeroB]
      · repeat' (first | exact Plus.refl _ | refine Plus.alloc ?_ _ | refine Plus.plus ?_ _ | refine Plus.drew ?_ | refine Plus.drewN ?_ _)
    rcases isV6 g1 with ⟨rfl, rfl⟩ | ⟨rfl, hq0, hq1, hq2⟩ | ⟨rfl, rfl⟩ | ⟨rfl, rfl⟩ | ⟨rfl, rfl⟩ | ⟨rfl, rfl⟩ <;> rcases isV6 g2 with ⟨rfl, rfl⟩ | ⟨rfl, hs0, hs1, hs2⟩ | ⟨rfl, rfl⟩ | ⟨rfl, rfl⟩ | ⟨rfl, rfl⟩ | ⟨rfl, rfl⟩
    all_goals first | (exact absurd rfl hp2) | (exact absurd rfl hr2) | skip
    all_goals clear g1 g2 hp2 hr2
    all_goals first | (have hqb := beq_f hq0) | skip
    all_goals first | (have hsb := beq_f hs0) | skip
    all_goals go_wp2_with (first | (go_at_call 56; refine (isNaN_c _ _ _).mono ?_; rintro e w1 ⟨rfl, ⟨x1, rfl⟩⟩) | (go_at_call 57; refine (isInf_c _ _ _).mono ?_; rintro e w1 ⟨rfl, ⟨x1, rfl⟩⟩) | (go_at_call 64; refine (isZero_c _ _ _).mono ?_; rintro e w1 ⟨rfl, ⟨x1, rfl⟩⟩) | (go_at_call 58; refine (nan_c _).mono ?_; rintro e w1 ⟨rfl, ⟨x2, rfl⟩⟩) | (go_at_call 65; refine (infinity_c _ _).mono ?_; rintro e w1 ⟨rfl, ⟨x2, rfl⟩⟩) | (go_at_call 66; refine (zero_c _ _).mono ?_; rintro e w1 ⟨rfl, ⟨x2, rfl⟩⟩) | (go_at_call 67; refine (prod_c q s hq1 hq2 hs0 hs1 hs2 _).mono ?_; rintro e w1 ⟨rfl, ⟨x2, rfl⟩⟩))
    all_goals go_returns
    all_goals refine ⟨?_, ?_⟩
    all_goals first | (simp [mulS, zeroB, *]; done) | (with_reducible (repeat' (first | exact Plus.refl _ | refine Plus.alloc ?_ _ | refine Plus.plus ?_ _ | refine Plus.drew ?_ | refine Plus.drewN ?_ _)); done) | (simp_all [mulS, zeroB]; done) | (obtain ⟨t1, t2⟩ := tdiv_le s hq1 hq2; have e := IntWalk.wrap64_in (q.tdiv s) (by omega); clear t1 t2; simp_all [mulS, zeroB]; done) | skip
    all_goals go_show

theorem mul_c (k n l m : Int) (w : World) : Calls Tryd.prog 20 #[.agg #[.int .i64 k, .int .i64 n], .agg #[.int .i64 l, .int .i64 m]] w fun e w' => e = .returned (.tuple #[.agg #[.int .i64 (mulR k n l m).k, .int .i64 (mulR k n l m).n], .bool (mulR k n l m).ok]) ∧ Plus w w' :=
  mul_h k n l m _ _ _ _ ⟨rfl, rfl⟩ ⟨rfl, rfl⟩ (isV_v k n) (isV_v l m) w
end Go.Proofs.YtdmodkmliagiiaaDoor
