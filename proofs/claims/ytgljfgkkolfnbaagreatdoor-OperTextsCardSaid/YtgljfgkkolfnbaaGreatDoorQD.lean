/- num: Div. num: named. -/
import Derived.Test.YtgljfgkkolfnbaaGreatDoorQA
import Derived.Test.YtgljfgkkolfnbaaGreatDoorQC
import Derived.Test.YtgljfgkkolfnbaaGreatDoorQB
namespace Go.Proofs.YtgljfgkkolfnbaaGreatDoor
open Go.RowKit

set_option maxHeartbeats 4000000 in
theorem div_h (k n l m p q r s : Int) (h1 : Hid (vk k n = p ∧ vn k n = q)) (h2 : Hid (vk l m = r ∧ vn l m = s)) (hp : Hid (IsV p q)) (hr : Hid (IsV r s)) (w : World) :
    Calls Tryz.prog 104 #[.agg #[.int .i64 k, .int .i64 n], .agg #[.int .i64 l, .int .i64 m]] w fun e w' => e = .returned (.tuple #[.agg #[.int .i64 (divS p q r s).k, .int .i64 (divS p q r s).n], .bool (divS p q r s).ok]) ∧ Plus w w' := by
  go_enter Tryz.func104, Tryz.ntmps104
  go_upto_region 1 with fail
  go_cut [] (fun wx => ∃ x1 x2, wx = plus (plus (((w.alloc (.cells #[.int .i64 p, .int .i64 q] 23)).alloc (.cells #[.int .i64 r, .int .i64 s] 23)).alloc (.cells #[.int .i64 0, .int .i64 0] 23)) x1) x2)
  case first =>
    go_region_with (first | (go_at_call_of 128 (Value.agg #[.int .i64 k, .int .i64 n]); refine (valid_h h1 _).mono ?_; rintro e w1 ⟨rfl, ⟨x1, rfl⟩⟩) | (go_at_call_of 128 (Value.agg #[.int .i64 l, .int .i64 m]); refine (valid_h h2 _).mono ?_; rintro e w1 ⟨rfl, ⟨x1, rfl⟩⟩))
    all_goals (go_wp2_with fail; go_meet; exact ⟨_, _, rfl⟩)
  case rest =>
    obtain ⟨x1, x2, rfl⟩ := hcut
    have g1 := hp.out
    have g2 := hr.out
    clear h1 h2 hp hr
    go_wp2_with fail
    refine wp_region_plus (by kernel_rfl) (by kernel_rfl) ?_
    repeat (go_big_quiet_step ((go_at_call 161; exact calls_plus (isNeg_c _ _ _))))
    refine wpQuiet_nil ?_
    intro _ hw'
    obtain ⟨x3, rfl⟩ := hw'
    by_cases hp2 : p = 2
    · subst hp2
      go_wp2_with (first | (go_at_call 129; refine (isNaN_c _ _ _).mono ?_; rintro e w1 ⟨rfl, ⟨x1, rfl⟩⟩) | (go_at_call 159; refine (isInf_c _ _ _).mono ?_; rintro e w1 ⟨rfl, ⟨x1, rfl⟩⟩) | (go_at_call 162; refine (isZero_c _ _ _).mono ?_; rintro e w1 ⟨rfl, ⟨x1, rfl⟩⟩) | (go_at_call 140; refine (nan_c _).mono ?_; rintro e w1 ⟨rfl, ⟨x2, rfl⟩⟩) | (go_at_call 136; refine (infinity_c _ _).mono ?_; rintro e w1 ⟨rfl, ⟨x2, rfl⟩⟩) | (go_at_call 133; refine (zero_c _ _).mono ?_; rintro e w1 ⟨rfl, ⟨x2, rfl⟩⟩) | (go_at_call 160; refine (of_c _ _).mono ?_; rintro e w1 ⟨rfl, ⟨x2, rfl⟩⟩))
      go_returns
      refine ⟨?_, ?_⟩
      · simp [divS, zeroB]
      · repeat' (first | exact Plus.refl _ | refine Plus.alloc ?_ _ | refine Plus.plus ?_ _ | refine Plus.drew ?_ | refine Plus.drewN ?_ _)
    by_cases hr2 : r = 2
    · subst hr2
      have e2 := beq_f hp2
      go_wp2_with (first | (go_at_call 129; refine (isNaN_c _ _ _).mono ?_; rintro e w1 ⟨rfl, ⟨x1, rfl⟩⟩) | (go_at_call 159; refine (isInf_c _ _ _).mono ?_; rintro e w1 ⟨rfl, ⟨x1, rfl⟩⟩) | (go_at_call 162; refine (isZero_c _ _ _).mono ?_; rintro e w1 ⟨rfl, ⟨x1, rfl⟩⟩) | (go_at_call 140; refine (nan_c _).mono ?_; rintro e w1 ⟨rfl, ⟨x2, rfl⟩⟩) | (go_at_call 136; refine (infinity_c _ _).mono ?_; rintro e w1 ⟨rfl, ⟨x2, rfl⟩⟩) | (go_at_call 133; refine (zero_c _ _).mono ?_; rintro e w1 ⟨rfl, ⟨x2, rfl⟩⟩) | (go_at_call 160; refine (of_c _ _).mono ?_; rintro e w1 ⟨rfl, ⟨x2, rfl⟩⟩))
      go_returns
      refine ⟨?_, ?_⟩
      · simp [divS, zeroB]
      · repeat' (first | exact Plus.refl _ | refine Plus.alloc ?_ _ | refine Plus.plus ?_ _ | refine Plus.drew ?_ | refine Plus.drewN ?_ _)
    rcases isV6 g1 with ⟨rfl, rfl⟩ | ⟨rfl, hq0, hq1, hq2⟩ | ⟨rfl, rfl⟩ | ⟨rfl, rfl⟩ | ⟨rfl, rfl⟩ | ⟨rfl, rfl⟩ <;> rcases isV6 g2 with ⟨rfl, rfl⟩ | ⟨rfl, hs0, hs1, hs2⟩ | ⟨rfl, rfl⟩ | ⟨rfl, rfl⟩ | ⟨rfl, rfl⟩ | ⟨rfl, rfl⟩
    all_goals first | (exact absurd rfl hp2) | (exact absurd rfl hr2) | skip
    all_goals clear g1 g2 hp2 hr2
    all_goals first | (have hqb := beq_f hq0) | skip
    all_goals first | (have hsb := beq_f hs0) | skip
    all_goals go_wp2_with (first | (go_at_call 129; refine (isNaN_c _ _ _).mono ?_; rintro e w1 ⟨rfl, ⟨x1, rfl⟩⟩) | (go_at_call 159; refine (isInf_c _ _ _).mono ?_; rintro e w1 ⟨rfl, ⟨x1, rfl⟩⟩) | (go_at_call 162; refine (isZero_c _ _ _).mono ?_; rintro e w1 ⟨rfl, ⟨x1, rfl⟩⟩) | (go_at_call 140; refine (nan_c _).mono ?_; rintro e w1 ⟨rfl, ⟨x2, rfl⟩⟩) | (go_at_call 136; refine (infinity_c _ _).mono ?_; rintro e w1 ⟨rfl, ⟨x2, rfl⟩⟩) | (go_at_call 133; refine (zero_c _ _).mono ?_; rintro e w1 ⟨rfl, ⟨x2, rfl⟩⟩) | (go_at_call 160; refine (of_c _ _).mono ?_; rintro e w1 ⟨rfl, ⟨x2, rfl⟩⟩))
    all_goals go_returns
    all_goals refine ⟨?_, ?_⟩
    all_goals first | (simp [divS, zeroB, *]; done) | (with_reducible (repeat' (first | exact Plus.refl _ | refine Plus.alloc ?_ _ | refine Plus.plus ?_ _ | refine Plus.drew ?_ | refine Plus.drewN ?_ _)); done) | (simp_all [divS, zeroB]; done) | (obtain ⟨t1, t2⟩ := tdiv_le s hq1 hq2; have e := IntWalk.wrap64_in (q.tdiv s) (by omega); clear t1 t2; simp_all [divS, zeroB]; done) | skip
    all_goals go_show

theorem div_c (k n l m : Int) (w : World) : Calls Tryz.prog 104 #[.agg #[.int .i64 k, .int .i64 n], .agg #[.int .i64 l, .int .i64 m]] w fun e w' => e = .returned (.tuple #[.agg #[.int .i64 (divR k n l m).k, .int .i64 (divR k n l m).n], .bool (divR k n l m).ok]) ∧ Plus w w' :=
  div_h k n l m _ _ _ _ ⟨rfl, rfl⟩ ⟨rfl, rfl⟩ (isV_v k n) (isV_v l m) w

end Go.Proofs.YtgljfgkkolfnbaaGreatDoor

namespace Go.Proofs.YtgljfgkkolfnbaaGreatDoor
open Go.RowKit

theorem add_v {k n l m : Int} {x : Int} {y : Int} {o : Bool} (h : Hid (addR k n l m = ⟨x, y, o⟩)) (w : World) : Calls Tryz.prog 101 #[.agg #[.int .i64 k, .int .i64 n], .agg #[.int .i64 l, .int .i64 m]] w fun e w' => e = .returned (.tuple #[.agg #[.int .i64 x, .int .i64 y], .bool o]) ∧ Plus w w' := by
  have c := add_c k n l m w
  rw [h.out] at c
  exact c
theorem sub_v {k n l m : Int} {x : Int} {y : Int} {o : Bool} (h : Hid (subR k n l m = ⟨x, y, o⟩)) (w : World) : Calls Tryz.prog 102 #[.agg #[.int .i64 k, .int .i64 n], .agg #[.int .i64 l, .int .i64 m]] w fun e w' => e = .returned (.tuple #[.agg #[.int .i64 x, .int .i64 y], .bool o]) ∧ Plus w w' := by
  have c := sub_c k n l m w
  rw [h.out] at c
  exact c
theorem mul_v {k n l m : Int} {x : Int} {y : Int} {o : Bool} (h : Hid (mulR k n l m = ⟨x, y, o⟩)) (w : World) : Calls Tryz.prog 103 #[.agg #[.int .i64 k, .int .i64 n], .agg #[.int .i64 l, .int .i64 m]] w fun e w' => e = .returned (.tuple #[.agg #[.int .i64 x, .int .i64 y], .bool o]) ∧ Plus w w' := by
  have c := mul_c k n l m w
  rw [h.out] at c
  exact c
theorem div_v {k n l m : Int} {x : Int} {y : Int} {o : Bool} (h : Hid (divR k n l m = ⟨x, y, o⟩)) (w : World) : Calls Tryz.prog 104 #[.agg #[.int .i64 k, .int .i64 n], .agg #[.int .i64 l, .int .i64 m]] w fun e w' => e = .returned (.tuple #[.agg #[.int .i64 x, .int .i64 y], .bool o]) ∧ Plus w w' := by
  have c := div_c k n l m w
  rw [h.out] at c
  exact c
theorem rem_v {k n l m : Int} {x : Int} {y : Int} (h : Hid (remR k n l m = ⟨x, y⟩)) (w : World) : Calls Tryz.prog 105 #[.agg #[.int .i64 k, .int .i64 n], .agg #[.int .i64 l, .int .i64 m]] w fun e w' => e = .returned (.agg #[.int .i64 x, .int .i64 y]) ∧ Plus w w' := by
  have c := rem_c k n l m w
  rw [h.out] at c
  exact c
theorem neg_v {k n : Int} {x : Int} {y : Int} (h : Hid (negR k n = ⟨x, y⟩)) (w : World) : Calls Tryz.prog 74 #[.agg #[.int .i64 k, .int .i64 n]] w fun e w' => e = .returned (.agg #[.int .i64 x, .int .i64 y]) ∧ Plus w w' := by
  have c := neg_c k n w
  rw [h.out] at c
  exact c
theorem bit_v {op k n l m : Int} {x : Int} {y : Int} (h : Hid (bitR op k n l m = ⟨x, y⟩)) (w : World) : Calls Tryz.prog 75 #[.int .i64 op, .agg #[.int .i64 k, .int .i64 n], .agg #[.int .i64 l, .int .i64 m]] w fun e w' => e = .returned (.agg #[.int .i64 x, .int .i64 y]) ∧ Plus w w' := by
  have c := bit_c op k n l m w
  rw [h.out] at c
  exact c
theorem less_v {k n l m : Int} {b : Bool} (h : Hid (lessR k n l m = b)) (w : World) : Calls Tryz.prog 176 #[.agg #[.int .i64 k, .int .i64 n], .agg #[.int .i64 l, .int .i64 m]] w fun e w' => e = .returned (.bool b) ∧ Plus w w' := by
  have c := less_c k n l m w
  rw [h.out] at c
  exact c
theorem may_v {k n : Int} {b : Bool} (h : Hid (mayB k n = b)) (w : World) : Calls Tryz.prog 60 #[.agg #[.int .i64 k, .int .i64 n]] w fun e w' => e = .returned (.bool b) ∧ Plus w w' := by
  have c := may_c k n w
  rw [h.out] at c
  exact c
theorem u32_v {k n : Int} {x : Int} (h : Hid (wordR k n = x)) (w : World) : Calls Tryz.prog 139 #[.agg #[.int .i64 k, .int .i64 n]] w fun e w' => e = .returned (.int .i64 x) ∧ Plus w w' := by
  have c := u32_c k n w
  rw [h.out] at c
  exact c
theorem i32_v {k n : Int} {x : Int} (h : Hid (i32R k n = x)) (w : World) : Calls Tryz.prog 138 #[.agg #[.int .i64 k, .int .i64 n]] w fun e w' => e = .returned (.int .i64 x) ∧ Plus w w' := by
  have c := i32_c k n w
  rw [h.out] at c
  exact c
end Go.Proofs.YtgljfgkkolfnbaaGreatDoor
