/- Contracts of Mul (r). -/
import Derived.Test.YtdmodkmliagiiaaDoorR2p
import Derived.Test.YtdmodkmliagiiaaDoorQ3
namespace Go.Proofs.YtdmodkmliagiiaaDoor
open Go.RowKit

set_option maxHeartbeats 4000000 in
theorem rmul_h (k n l m p q r s : Int) (h1 : Hid (vk k n = p ∧ vn k n = q)) (h2 : Hid (vk l m = r ∧ vn l m = s)) (hp : Hid (IsV p q)) (hr : Hid (IsV r s)) (w : World) :
    Calls Tryd.prog 21 #[.agg #[.int .i64 k, .int .i64 n], .agg #[.int .i64 l, .int .i64 m]] w fun e w' => e = .returned (.tuple #[.agg #[.int .i64 (mulS p q r s).k, .int .i64 (mulS p q r s).n], .bool (mulS p q r s).ok]) ∧ Plus w w' := by
  go_enter Tryd.func21, Tryd.ntmps21
  go_upto_region 1 with fail
  go_cut [6, 7] (fun sa sb wx => ∃ b c, sa = .pointer (some ⟨b, 0, none⟩) ∧ sb = .pointer (some ⟨c, 0, none⟩) ∧ Plus (((w.alloc (.cells #[.int .i64 k, .int .i64 n] 23)).alloc (.cells #[.int .i64 l, .int .i64 m] 23)).alloc (.cells #[.int .i64 0, .int .i64 0] 23)) wx ∧ Box wx b p q ∧ Box wx c r s)
  case first =>
    go_region_held3 (fun w' => Plus (((w.alloc (.cells #[.int .i64 k, .int .i64 n] 23)).alloc (.cells #[.int .i64 l, .int .i64 m] 23)).alloc (.cells #[.int .i64 0, .int .i64 0] 23)) w' ∧ w'.cell? ⟨w.heap.size, 0, none⟩ = some (.int .i64 k) ∧ w'.cell? ⟨w.heap.size, 1, none⟩ = some (.int .i64 n) ∧ w'.cell? ⟨w.heap.size + 1, 0, none⟩ = some (.int .i64 l) ∧ w'.cell? ⟨w.heap.size + 1, 1, none⟩ = some (.int .i64 m))
      (exact box_S3 (by repeat' (first | exact Plus.refl _ | refine Plus.alloc ?_ _ | refine Plus.plus ?_ _ | refine Plus.drew ?_ | refine Plus.drewN ?_ _)))
      (first | (go_at_call_of 59 (Value.agg #[.int .i64 k, .int .i64 n]); refine (rgood_h h1 _).mono ?_; rintro e w1 ⟨rfl, ⟨x1, rfl⟩⟩) | (go_at_call_of 59 (Value.agg #[.int .i64 l, .int .i64 m]); refine (rgood_h h2 _).mono ?_; rintro e w1 ⟨rfl, ⟨x1, rfl⟩⟩))
    all_goals (go_wp2_with fail; go_meet; refine ⟨_, _, rfl, rfl, ?_, ?_, ?_⟩)
    all_goals first | ((repeat' (first | exact Plus.refl _ | refine Plus.alloc ?_ _ | refine Plus.plus ?_ _ | refine Plus.drew ?_ | refine Plus.drewN ?_ _)); done) | ((repeat' (first | (refine Box.new' ?_; (simp [go_sem]; done)) | refine Box.alloc ?_ _ | refine Box.grow ?_ _ | refine Box.drew ?_)); done) | skip
    all_goals go_show
  case rest =>
    obtain ⟨b, c, rfl, rfl, hP, hb, hc⟩ := hcut
    have hd := box_r hP
    have hPw := hP.of_alloc.of_alloc.of_alloc
    clear hP
    have g1 := hp.out
    have g2 := hr.out
    clear h1 h2 hp hr
    obtain ⟨hb0, hb1, hb2, hb3, hb4⟩ := hb
    obtain ⟨hc0, hc1, hc2, hc3, hc4⟩ := hc
    haveI : Old b wc := ⟨hb4⟩
    haveI : Old c wc := ⟨hc4⟩
    clear hb4 hc4
    obtain ⟨hd0, hd1, hd2, hd3, hd4⟩ := hd
    haveI : Old (w.heap.size + 1 + 1) wc := ⟨hd4⟩
    haveI : HasCell wc (w.heap.size + 1 + 1) 0 := ⟨_, hd0⟩
    haveI : HasCell wc (w.heap.size + 1 + 1) 1 := ⟨_, hd1⟩
    clear hd4
    go_wp2_with fail
    refine wp_region_plus (by kernel_rfl) (by kernel_rfl) ?_
    repeat (go_big_quiet_step ((go_at_call 68; exact calls_plus (rbelow_c _ _ _))))
    refine wpQuiet_nil ?_
    intro _ hw'
    obtain ⟨x3, rfl⟩ := hw'
    by_cases hp2 : p = 2
    · subst hp2
      go_wp2_with (first | (go_at_call 60; refine (rnan_c _ _ _).mono ?_; rintro e w1 ⟨rfl, ⟨x1, rfl⟩⟩) | (go_at_call 61; refine (rinf_c _ _ _).mono ?_; rintro e w1 ⟨rfl, ⟨x1, rfl⟩⟩) | (go_at_call 69; refine (rnought_c _ _ _).mono ?_; rintro e w1 ⟨rfl, ⟨x1, rfl⟩⟩) | (go_at_call 62; refine (rNaN_c _).mono ?_; rintro e w1 ⟨rfl, ⟨x2, rfl⟩⟩) | (go_at_call 70; refine (rsigned_c _ _ _).mono ?_; rintro e w1 ⟨rfl, ⟨x2, rfl⟩⟩) | (go_at_call 71; refine (rprod_c q s hq1 hq2 hs0 hs1 hs2 _).mono ?_; rintro e w1 ⟨rfl, ⟨x2, rfl⟩⟩))
      go_returns
      refine ⟨?_, ?_⟩
      · simp [mulS, zeroB]
      · repeat' (first | exact hPw | refine Plus.alloc ?_ _ | refine Plus.plus ?_ _ | (refine Plus.setCell ?_ (by show w.heap.size ≤ w.heap.size + 1 + 1; omega) _) | refine Plus.drew ?_ | refine Plus.drewN ?_ _)
    by_cases hr2 : r = 2
    · subst hr2
      have e2 := beq_f hp2
      go_wp2_with (first | (go_at_call 60; refine (rnan_c _ _ _).mono ?_; rintro e w1 ⟨rfl, ⟨x1, rfl⟩⟩) | (go_at_call 61; refine (rinf_c _ _ _).mono ?_; rintro e w1 ⟨rfl, ⟨x1, rfl⟩⟩) | (go_at_call 69; refine (rnought_c _ _ _).mono ?_; rintro e w1 ⟨rfl, ⟨x1, rfl⟩⟩) | (go_at_call 62; refine (rNaN_c _).mono ?_; rintro e w1 ⟨rfl, ⟨x2, rfl⟩⟩) | (go_at_call 70; refine (rsigned_c _ _ _).mono ?_; rintro e w1 ⟨rfl, ⟨x2, rfl⟩⟩) | (go_at_call 71; refine (rprod_c q s hq1 hq2 hs0 hs1 hs2 _).mono ?_; rintro e w1 ⟨rfl, ⟨x2, rfl⟩⟩))
      go_returns
      refine ⟨?_, ?_⟩
      · simp [mulS, zeroB]
      · repeat' (first | exact hPw | refine Plus.alloc ?_ _ | refine Plus.plus ?_ _ | (refine Plus.setCell ?_ (by show w.heap.size ≤ w.heap.size + 1 + 1; omega) _) | refine Plus.drew ?_ | refine Plus.drewN ?_ _)
    rcases isV6 g1 with ⟨rfl, rfl⟩ | ⟨rfl, hq0, hq1, hq2⟩ | ⟨rfl, rfl⟩ | ⟨rfl, rfl⟩ | ⟨rfl, rfl⟩ | ⟨rfl, rfl⟩ <;> rcases isV6 g2 with ⟨rfl, rfl⟩ | ⟨rfl, hs0, hs1, hs2⟩ | ⟨rfl, rfl⟩ | ⟨rfl, rfl⟩ | ⟨rfl, rfl⟩ | ⟨rfl, rfl⟩
    all_goals first | (exact absurd rfl hp2) | (exact absurd rfl hr2) | skip
    all_goals clear g1 g2 hp2 hr2
    all_goals first | (have hqb := beq_f hq0) | skip
    all_goals first | (have hsb := beq_f hs0) | skip
    all_goals go_wp2_with (first | (go_at_call 60; refine (rnan_c _ _ _).mono ?_; rintro e w1 ⟨rfl, ⟨x1, rfl⟩⟩) | (go_at_call 61; refine (rinf_c _ _ _).mono ?_; rintro e w1 ⟨rfl, ⟨x1, rfl⟩⟩) | (go_at_call 69; refine (rnought_c _ _ _).mono ?_; rintro e w1 ⟨rfl, ⟨x1, rfl⟩⟩) | (go_at_call 62; refine (rNaN_c _).mono ?_; rintro e w1 ⟨rfl, ⟨x2, rfl⟩⟩) | (go_at_call 70; refine (rsigned_c _ _ _).mono ?_; rintro e w1 ⟨rfl, ⟨x2, rfl⟩⟩) | (go_at_call 71; refine (rprod_c q s hq1 hq2 hs0 hs1 hs2 _).mono ?_; rintro e w1 ⟨rfl, ⟨x2, rfl⟩⟩))
    all_goals go_returns
    all_goals refine ⟨?_, ?_⟩
    all_goals first | (simp [mulS, zeroB, *]; done) | (with_reducible (repeat' (first | exact hPw | refine Plus.alloc ?_ _ | refine Plus.plus ?_ _ | (refine Plus.setCell ?_ (by show w.heap.size ≤ w.heap.size + 1 + 1; omega) _) | refine Plus.drew ?_ | refine Plus.drewN ?_ _)); done) | (simp_all [mulS, zeroB]; done) | (obtain ⟨t1, t2⟩ := tdiv_le s hq1 hq2; have e := IntWalk.wrap64_in (q.tdiv s) (by omega); clear t1 t2; simp_all [mulS, zeroB]; done) | skip
    all_goals go_show

theorem rmul_c (k n l m : Int) (w : World) : Calls Tryd.prog 21 #[.agg #[.int .i64 k, .int .i64 n], .agg #[.int .i64 l, .int .i64 m]] w fun e w' => e = .returned (.tuple #[.agg #[.int .i64 (mulR k n l m).k, .int .i64 (mulR k n l m).n], .bool (mulR k n l m).ok]) ∧ Plus w w' :=
  rmul_h k n l m _ _ _ _ ⟨rfl, rfl⟩ ⟨rfl, rfl⟩ (isV_v k n) (isV_v l m) w
end Go.Proofs.YtdmodkmliagiiaaDoor
