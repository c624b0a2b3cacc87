/- Contracts of Less, Equal, Same (r). -/
import Derived.Test.YtdmodkmliagiiaaDoorR1
namespace Go.Proofs.YtdmodkmliagiiaaDoor
open Go.RowKit

set_option maxHeartbeats 4000000 in
theorem rless_h (k n l m p q r s : Int) (h1 : Hid (vk k n = p ∧ vn k n = q)) (h2 : Hid (vk l m = r ∧ vn l m = s)) (hp : Hid (IsV p q)) (hr : Hid (IsV r s)) (w : World) :
    Calls Tryd.prog 33 #[.agg #[.int .i64 k, .int .i64 n], .agg #[.int .i64 l, .int .i64 m]] w fun e w' => e = .returned (.bool (lessS p q r s)) ∧ Plus w w' := by
  go_enter Tryd.func33, Tryd.ntmps33
  go_upto_region 1 with fail
  go_cut [5, 6] (fun sa sb wx => ∃ b c, sa = .pointer (some ⟨b, 0, none⟩) ∧ sb = .pointer (some ⟨c, 0, none⟩) ∧ Plus ((w.alloc (.cells #[.int .i64 k, .int .i64 n] 23)).alloc (.cells #[.int .i64 l, .int .i64 m] 23)) wx ∧ Box wx b p q ∧ Box wx c r s)
  case first =>
    go_region_held3 (fun w' => Plus ((w.alloc (.cells #[.int .i64 k, .int .i64 n] 23)).alloc (.cells #[.int .i64 l, .int .i64 m] 23)) w' ∧ w'.cell? ⟨w.heap.size, 0, none⟩ = some (.int .i64 k) ∧ w'.cell? ⟨w.heap.size, 1, none⟩ = some (.int .i64 n) ∧ w'.cell? ⟨w.heap.size + 1, 0, none⟩ = some (.int .i64 l) ∧ w'.cell? ⟨w.heap.size + 1, 1, none⟩ = some (.int .i64 m))
      (exact box_S2 (by repeat' (first | exact Plus.refl _ | refine Plus.alloc ?_ _ | refine Plus.plus ?_ _ | refine Plus.drew ?_ | refine Plus.drewN ?_ _)))
      (first | (go_at_call_of 59 (Value.agg #[.int .i64 k, .int .i64 n]); refine (rgood_h h1 _).mono ?_; rintro e w1 ⟨rfl, ⟨x1, rfl⟩⟩) | (go_at_call_of 59 (Value.agg #[.int .i64 l, .int .i64 m]); refine (rgood_h h2 _).mono ?_; rintro e w1 ⟨rfl, ⟨x1, rfl⟩⟩))
    all_goals (go_wp2_with fail; go_meet; refine ⟨_, _, rfl, rfl, ?_, ?_, ?_⟩)
    all_goals first | ((repeat' (first | exact Plus.refl _ | refine Plus.alloc ?_ _ | refine Plus.plus ?_ _ | refine Plus.drew ?_ | refine Plus.drewN ?_ _)); done) | ((repeat' (first | (refine Box.new' ?_; (simp [go_sem]; done)) | refine Box.alloc ?_ _ | refine Box.grow ?_ _ | refine Box.drew ?_)); done) | skip
    all_goals go_show
  case rest =>
    obtain ⟨b, c, rfl, rfl, hP, hb, hc⟩ := hcut
    have hPw := hP.of_alloc.of_alloc
    clear hP
    have g1 := hp.out
    have g2 := hr.out
    clear h1 h2 hp hr
    obtain ⟨hb0, hb1, hb2, hb3, hb4⟩ := hb
    obtain ⟨hc0, hc1, hc2, hc3, hc4⟩ := hc
    haveI : Old b wc := ⟨hb4⟩
    haveI : Old c wc := ⟨hc4⟩
    clear hb4 hc4
    have HE := Lib.hid (rfl : lessS p q r s = lessS p q r s)
    by_cases hp2 : p = 2
    · subst hp2
      go_wp2_with fail
      refine wp_region_plus (by kernel_rfl) (by kernel_rfl) ?_
      repeat (go_big_quiet_step ((first | (go_at_call 60; exact calls_plus (rnan_c _ _ _)) | (go_at_call 74; exact calls_plus (rrank_c _ _ _)))))
      refine wpQuiet_nil ?_
      intro _ hw'
      obtain ⟨x3, rfl⟩ := hw'
      go_wp2_with fail
      go_returns
      refine ⟨?_, ?_⟩
      · simp [lessS]
      · repeat' (first | exact hPw | refine Plus.alloc ?_ _ | refine Plus.plus ?_ _ | (refine Plus.setCell ?_ (by show w.heap.size ≤ w.heap.size + 1 + 1; omega) _) | refine Plus.drew ?_ | refine Plus.drewN ?_ _)
    by_cases hr2 : r = 2
    · subst hr2
      have e2 := beq_f hp2
      go_wp2_with fail
      refine wp_region_plus (by kernel_rfl) (by kernel_rfl) ?_
      repeat (go_big_quiet_step ((first | (go_at_call 60; exact calls_plus (rnan_c _ _ _)) | (go_at_call 74; exact calls_plus (rrank_c _ _ _)))))
      refine wpQuiet_nil ?_
      intro _ hw'
      obtain ⟨x3, rfl⟩ := hw'
      go_wp2_with fail
      go_returns
      refine ⟨?_, ?_⟩
      · simp [lessS, e2]
      · repeat' (first | exact hPw | refine Plus.alloc ?_ _ | refine Plus.plus ?_ _ | (refine Plus.setCell ?_ (by show w.heap.size ≤ w.heap.size + 1 + 1; omega) _) | refine Plus.drew ?_ | refine Plus.drewN ?_ _)
    · have e2 := beq_f hp2
      have e3 := beq_f hr2
      go_wp2_with fail
      refine wp_region_plus (by kernel_rfl) (by kernel_rfl) ?_
      repeat (go_big_quiet_step ((first | (go_at_call 60; exact calls_plus (rnan_c _ _ _)) | (go_at_call 74; exact calls_plus (rrank_c _ _ _)))))
      refine wpQuiet_nil ?_
      intro _ hw'
      obtain ⟨x3, rfl⟩ := hw'
      go_wp2_with fail
      go_returns
      refine ⟨?_, ?_⟩
      · simp [lessS, e2, e3]
      · repeat' (first | exact hPw | refine Plus.alloc ?_ _ | refine Plus.plus ?_ _ | (refine Plus.setCell ?_ (by show w.heap.size ≤ w.heap.size + 1 + 1; omega) _) | refine Plus.drew ?_ | refine Plus.drewN ?_ _)

theorem rless_c (k n l m : Int) (w : World) : Calls Tryd.prog 33 #[.agg #[.int .i64 k, .int .i64 n], .agg #[.int .i64 l, .int .i64 m]] w fun e w' => e = .returned (.bool (lessR k n l m)) ∧ Plus w w' :=
  rless_h k n l m _ _ _ _ ⟨rfl, rfl⟩ ⟨rfl, rfl⟩ (isV_v k n) (isV_v l m) w
set_option maxHeartbeats 4000000 in
theorem requal_h (k n l m p q r s : Int) (h1 : Hid (vk k n = p ∧ vn k n = q)) (h2 : Hid (vk l m = r ∧ vn l m = s)) (hp : Hid (IsV p q)) (hr : Hid (IsV r s)) (w : World) :
    Calls Tryd.prog 35 #[.agg #[.int .i64 k, .int .i64 n], .agg #[.int .i64 l, .int .i64 m]] w fun e w' => e = .returned (.bool (equalS p q r s)) ∧ Plus w w' := by
  go_enter Tryd.func35, Tryd.ntmps35
  go_upto_region 1 with fail
  go_cut [5, 6] (fun sa sb wx => ∃ b c, sa = .pointer (some ⟨b, 0, none⟩) ∧ sb = .pointer (some ⟨c, 0, none⟩) ∧ Plus ((w.alloc (.cells #[.int .i64 k, .int .i64 n] 23)).alloc (.cells #[.int .i64 l, .int .i64 m] 23)) wx ∧ Box wx b p q ∧ Box wx c r s)
  case first =>
    go_region_held3 (fun w' => Plus ((w.alloc (.cells #[.int .i64 k, .int .i64 n] 23)).alloc (.cells #[.int .i64 l, .int .i64 m] 23)) w' ∧ w'.cell? ⟨w.heap.size, 0, none⟩ = some (.int .i64 k) ∧ w'.cell? ⟨w.heap.size, 1, none⟩ = some (.int .i64 n) ∧ w'.cell? ⟨w.heap.size + 1, 0, none⟩ = some (.int .i64 l) ∧ w'.cell? ⟨w.heap.size + 1, 1, none⟩ = some (.int .i64 m))
      (exact box_S2 (by repeat' (first | exact Plus.refl _ | refine Plus.alloc ?_ _ | refine Plus.plus ?_ _ | refine Plus.drew ?_ | refine Plus.drewN ?_ _)))
      (first | (go_at_call_of 59 (Value.agg #[.int .i64 k, .int .i64 n]); refine (rgood_h h1 _).mono ?_; rintro e w1 ⟨rfl, ⟨x1, rfl⟩⟩) | (go_at_call_of 59 (Value.agg #[.int .i64 l, .int .i64 m]); refine (rgood_h h2 _).mono ?_; rintro e w1 ⟨rfl, ⟨x1, rfl⟩⟩))
    all_goals (go_wp2_with fail; go_meet; refine ⟨_, _, rfl, rfl, ?_, ?_, ?_⟩)
    all_goals first | ((repeat' (first | exact Plus.refl _ | refine Plus.alloc ?_ _ | refine Plus.plus ?_ _ | refine Plus.drew ?_ | refine Plus.drewN ?_ _)); done) | ((repeat' (first | (refine Box.new' ?_; (simp [go_sem]; done)) | refine Box.alloc ?_ _ | refine Box.grow ?_ _ | refine Box.drew ?_)); done) | skip
    all_goals go_show
  case rest =>
    obtain ⟨b, c, rfl, rfl, hP, hb, hc⟩ := hcut
    have hPw := hP.of_alloc.of_alloc
    clear hP
    have g1 := hp.out
    have g2 := hr.out
    clear h1 h2 hp hr
    obtain ⟨hb0, hb1, hb2, hb3, hb4⟩ := hb
    obtain ⟨hc0, hc1, hc2, hc3, hc4⟩ := hc
    haveI : Old b wc := ⟨hb4⟩
    haveI : Old c wc := ⟨hc4⟩
    clear hb4 hc4
    have HE := Lib.hid (rfl : equalS p q r s = equalS p q r s)
    by_cases hp2 : p = 2
    · subst hp2
      go_wp2_with fail
      refine wp_region_plus (by kernel_rfl) (by kernel_rfl) ?_
      repeat (go_big_quiet_step ((first | (go_at_call 60; exact calls_plus (rnan_c _ _ _)) | (go_at_call 74; exact calls_plus (rrank_c _ _ _)))))
      refine wpQuiet_nil ?_
      intro _ hw'
      obtain ⟨x3, rfl⟩ := hw'
      go_wp2_with fail
      go_returns
      refine ⟨?_, ?_⟩
      · simp [equalS]
      · repeat' (first | exact hPw | refine Plus.alloc ?_ _ | refine Plus.plus ?_ _ | (refine Plus.setCell ?_ (by show w.heap.size ≤ w.heap.size + 1 + 1; omega) _) | refine Plus.drew ?_ | refine Plus.drewN ?_ _)
    by_cases hr2 : r = 2
    · subst hr2
      have e2 := beq_f hp2
      go_wp2_with fail
      refine wp_region_plus (by kernel_rfl) (by kernel_rfl) ?_
      repeat (go_big_quiet_step ((first | (go_at_call 60; exact calls_plus (rnan_c _ _ _)) | (go_at_call 74; exact calls_plus (rrank_c _ _ _)))))
      refine wpQuiet_nil ?_
      intro _ hw'
      obtain ⟨x3, rfl⟩ := hw'
      go_wp2_with fail
      go_returns
      refine ⟨?_, ?_⟩
      · simp [equalS, e2]
      · repeat' (first | exact hPw | refine Plus.alloc ?_ _ | refine Plus.plus ?_ _ | (refine Plus.setCell ?_ (by show w.heap.size ≤ w.heap.size + 1 + 1; omega) _) | refine Plus.drew ?_ | refine Plus.drewN ?_ _)
    · have e2 := beq_f hp2
      have e3 := beq_f hr2
      go_wp2_with fail
      refine wp_region_plus (by kernel_rfl) (by kernel_rfl) ?_
      repeat (go_big_quiet_step ((first | (go_at_call 60; exact calls_plus (rnan_c _ _ _)) | (go_at_call 74; exact calls_plus (rrank_c _ _ _)))))
      refine wpQuiet_nil ?_
      intro _ hw'
      obtain ⟨x3, rfl⟩ := hw'
      go_wp2_with fail
      go_returns
      refine ⟨?_, ?_⟩
      · simp [equalS, e2, e3]
      · repeat' (first | exact hPw | refine Plus.alloc ?_ _ | refine Plus.plus ?_ _ | (refine Plus.setCell ?_ (by show w.heap.size ≤ w.heap.size + 1 + 1; omega) _) | refine Plus.drew ?_ | refine Plus.drewN ?_ _)

theorem requal_c (k n l m : Int) (w : World) : Calls Tryd.prog 35 #[.agg #[.int .i64 k, .int .i64 n], .agg #[.int .i64 l, .int .i64 m]] w fun e w' => e = .returned (.bool (equalR k n l m)) ∧ Plus w w' :=
  requal_h k n l m _ _ _ _ ⟨rfl, rfl⟩ ⟨rfl, rfl⟩ (isV_v k n) (isV_v l m) w
end Go.Proofs.YtdmodkmliagiiaaDoor
