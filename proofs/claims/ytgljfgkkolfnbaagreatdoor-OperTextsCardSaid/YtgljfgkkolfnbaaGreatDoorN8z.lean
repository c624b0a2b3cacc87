/- num: isNaN, place, Whole, Equal, Index, Text; the document's small functions of numbers. -/
import Derived.Test.YtgljfgkkolfnbaaGreatDoorBE
namespace Go.Proofs.YtgljfgkkolfnbaaGreatDoor
open Go.RowKit

/-- A number's text. -/
def txtS (p q : Int) : List UInt8 := if p = 2 then [78, 97, 78] else if p = 3 then [73, 110, 102, 105, 110, 105, 116, 121] else if p = 4 then [45, 73, 110, 102, 105, 110, 105, 116, 121] else Lib.itoa q
def txtR (k n : Int) : List UInt8 := txtS (vk k n) (vn k n)
theorem isNaN_c (k n : Int) (w : World) : Calls Tryz.prog 129 #[.agg #[.int .i64 k, .int .i64 n]] w fun e w' => e = .returned (.bool (k == 2)) ∧ Plus w w' := by
  go_enter Tryz.func129, Tryz.ntmps129
  go_wp2
  go_ret
  exact ⟨rfl, (Plus.refl _).alloc _⟩

theorem rnan_c (k n : Int) (w : World) : Calls Tryz.prog 86 #[.agg #[.int .i64 k, .int .i64 n]] w fun e w' => e = .returned (.bool (k == 2)) ∧ Plus w w' := by
  go_enter Tryz.func86, Tryz.ntmps86
  go_wp2
  go_ret
  exact ⟨rfl, (Plus.refl _).alloc _⟩

theorem kind_c (k : Int) (w : World) : Calls Tryz.prog 142 #[.int .i64 k] w fun e w' => e = .returned (.agg #[.int .i64 k, .int .i64 0]) ∧ Plus w w' := by
  go_enter Tryz.func142, Tryz.ntmps142
  go_wp2
  go_returns
  exact ⟨rfl, (Plus.refl _).alloc _⟩

theorem rNaN_c  (w : World) : Calls Tryz.prog 78 #[] w fun e w' => e = .returned (.agg #[.int .i64 2, .int .i64 0]) ∧ Plus w w' := by
  go_enter Tryz.func78, Tryz.ntmps78
  go_wp2_with (go_at_call 142; refine (kind_c _ _).mono ?_; rintro e w1 ⟨rfl, ⟨x1, rfl⟩⟩)
  go_returns
  exact ⟨rfl, ((Plus.refl _).alloc _).plus _⟩

theorem rinf_c (k n : Int) (w : World) : Calls Tryz.prog 87 #[.agg #[.int .i64 k, .int .i64 n]] w fun e w' => e = .returned (.bool (k == 3 || k == 4)) ∧ Plus w w' := by
  by_cases h : k = 3
  · subst h
    go_enter Tryz.func87, Tryz.ntmps87
    go_wp2
    go_ret
    exact ⟨rfl, (Plus.refl _).alloc _⟩
  · have h3 := beq_f h
    rw [h3]
    go_enter Tryz.func87, Tryz.ntmps87
    go_wp2
    go_ret
    exact ⟨rfl, (Plus.refl _).alloc _⟩

theorem rnought_c (k n : Int) (w : World) : Calls Tryz.prog 88 #[.agg #[.int .i64 k, .int .i64 n]] w fun e w' => e = .returned (.bool (k == 1 || (k == 0 && n == 0))) ∧ Plus w w' := by
  by_cases h : k = 1
  · subst h
    go_enter Tryz.func88, Tryz.ntmps88
    go_wp2
    go_ret
    exact ⟨rfl, (Plus.refl _).alloc _⟩
  · have h3 := beq_f h
    rw [h3]
    by_cases h0 : k = 0
    · subst h0
      go_enter Tryz.func88, Tryz.ntmps88
      go_wp2
      go_ret
      exact ⟨rfl, (Plus.refl _).alloc _⟩
    · have h4 := beq_f h0
      rw [h4]
      go_enter Tryz.func88, Tryz.ntmps88
      go_wp2
      go_ret
      exact ⟨rfl, (Plus.refl _).alloc _⟩

theorem rbelow_c (k n : Int) (w : World) : Calls Tryz.prog 90 #[.agg #[.int .i64 k, .int .i64 n]] w fun e w' => e = .returned (.bool (negB k n)) ∧ Plus w w' := by
  have hm : ∀ b : Bool, b = negB k n → (Value.bool b) = .bool (negB k n) := fun b h => by rw [h]
  have HM := Lib.hid hm; clear hm
  go_enter Tryz.func90, Tryz.ntmps90
  go_wp2
  all_goals go_ret
  all_goals refine ⟨congrArg Ending.returned (HM.out _ ?_), (Plus.refl _).alloc _⟩
  all_goals (unfold negB; simp_all)

theorem rmay_c (k n : Int) (w : World) : Calls Tryz.prog 151 #[.agg #[.int .i64 k, .int .i64 n]] w fun e w' => e = .returned (.bool (mayB k n)) ∧ Plus w w' := by
  have hm : ∀ b : Bool, b = mayB k n → (Value.bool b) = .bool (mayB k n) := fun b h => by rw [h]
  have HM := Lib.hid hm; clear hm
  go_enter Tryz.func151, Tryz.ntmps151
  go_wp2
  all_goals go_ret
  all_goals refine ⟨congrArg Ending.returned (HM.out _ ?_), (Plus.refl _).alloc _⟩
  all_goals (unfold mayB; simp_all)
  all_goals omega

theorem rgood_c (k n : Int) (w : World) : Calls Tryz.prog 85 #[.agg #[.int .i64 k, .int .i64 n]] w fun e w' => e = .returned (.agg #[.int .i64 (vk k n), .int .i64 (vn k n)]) ∧ Plus w w' := by
  by_cases h : mayB k n = true
  · have h1 : vk k n = k := by unfold vk; rw [if_pos h]
    have h2 : vn k n = n := by unfold vn; rw [if_pos h]
    rw [h1, h2]; clear h1 h2
    go_enter Tryz.func85, Tryz.ntmps85
    go_wp2_with (first | (go_at_call 151; refine (rmay_c _ _ _).mono ?_; rintro e w1 ⟨rfl, ⟨x1, rfl⟩⟩) | (go_at_call 142; refine (kind_c _ _).mono ?_; rintro e w1 ⟨rfl, ⟨x2, rfl⟩⟩))
    go_returns
    refine ⟨rfl, ?_⟩
    repeat' (first | exact Plus.refl _ | refine Plus.alloc ?_ _ | refine Plus.plus ?_ _ | refine Plus.drew ?_ | refine Plus.drewN ?_ _)
  · have h1 : vk k n = 2 := by unfold vk; rw [if_neg h]
    have h2 : vn k n = 0 := by unfold vn; rw [if_neg h]
    have h' : mayB k n = false := by simpa using h
    rw [h1, h2]; clear h1 h2 h
    go_enter Tryz.func85, Tryz.ntmps85
    go_wp2_with (first | (go_at_call 151; refine (rmay_c _ _ _).mono ?_; rintro e w1 ⟨rfl, ⟨x1, rfl⟩⟩) | (go_at_call 142; refine (kind_c _ _).mono ?_; rintro e w1 ⟨rfl, ⟨x2, rfl⟩⟩))
    go_returns
    refine ⟨rfl, ?_⟩
    repeat' (first | exact Plus.refl _ | refine Plus.alloc ?_ _ | refine Plus.plus ?_ _ | refine Plus.drew ?_ | refine Plus.drewN ?_ _)

theorem rgood_h {k n p q : Int} (h : Hid (vk k n = p ∧ vn k n = q)) (w : World) : Calls Tryz.prog 85 #[.agg #[.int .i64 k, .int .i64 n]] w fun e w' => e = .returned (.agg #[.int .i64 p, .int .i64 q]) ∧ Plus w w' := by
  obtain ⟨rfl, rfl⟩ := h.out
  exact rgood_c k n w

theorem place_c (k n : Int) (w : World) : Calls Tryz.prog 130 #[.agg #[.int .i64 k, .int .i64 n]] w fun e w' => e = .returned (.int .i64 (place k n)) ∧ Plus w w' := by
  by_cases h3 : k = 3
  · subst h3
    go_enter Tryz.func130, Tryz.ntmps130
    go_wp2
    go_ret
    exact ⟨rfl, (Plus.refl _).alloc _⟩
  · by_cases h4 : k = 4
    · subst h4
      go_enter Tryz.func130, Tryz.ntmps130
      go_wp2
      go_ret
      exact ⟨rfl, (Plus.refl _).alloc _⟩
    · have e : place k n = n := by unfold place; rw [if_neg h3, if_neg h4]
      have e3 := beq_f h3
      have e4 := beq_f h4
      rw [e]; clear e h3 h4
      go_enter Tryz.func130, Tryz.ntmps130
      go_wp2
      go_ret
      exact ⟨rfl, (Plus.refl _).alloc _⟩

set_option maxHeartbeats 2000000 in
theorem whole_h {k n p q : Int} (h1 : Hid (vk k n = p ∧ vn k n = q)) (hp : Hid (IsV p q)) (w : World) :
    Calls Tryz.prog 70 #[.agg #[.int .i64 k, .int .i64 n]] w fun e w' => e = .returned (.agg #[.int .i64 (wholeS p q).k, .int .i64 (wholeS p q).n]) ∧ Plus w w' := by
  have g1 := hp.out
  clear hp
  rcases g1 with ⟨rfl, hq1, hq2⟩ | ⟨rfl, rfl⟩ | ⟨rfl, rfl⟩ | ⟨rfl, rfl⟩ | ⟨rfl, rfl⟩
  all_goals go_enter Tryz.func70, Tryz.ntmps70
  all_goals go_wp2_with (first | (go_at_call 128; refine (valid_h h1 _).mono ?_; rintro e w1 ⟨rfl, ⟨x0, rfl⟩⟩) | (go_at_call 133; refine (zero_c _ _).mono ?_; rintro e w1 ⟨rfl, ⟨x2, rfl⟩⟩))
  all_goals go_returns
  all_goals refine ⟨?_, ?_⟩
  all_goals first | (simp [wholeS, zeroK, *]; done) | (with_reducible (repeat' (first | exact Plus.refl _ | refine Plus.alloc ?_ _ | refine Plus.plus ?_ _ | refine Plus.drew ?_ | refine Plus.drewN ?_ _)); done) | (simp_all [wholeS, zeroK]; done) | skip
  all_goals go_show

theorem whole_c (k n : Int) (w : World) : Calls Tryz.prog 70 #[.agg #[.int .i64 k, .int .i64 n]] w fun e w' => e = .returned (.agg #[.int .i64 (wholeR k n).k, .int .i64 (wholeR k n).n]) ∧ Plus w w' :=
  whole_h ⟨rfl, rfl⟩ (isV_v k n) w

set_option maxHeartbeats 4000000 in
theorem numEqual_h (k n l m p q r s : Int) (h1 : Hid (vk k n = p ∧ vn k n = q)) (h2 : Hid (vk l m = r ∧ vn l m = s)) (hp : Hid (IsV p q)) (hr : Hid (IsV r s)) (w : World) :
    Calls Tryz.prog 65 #[.agg #[.int .i64 k, .int .i64 n], .agg #[.int .i64 l, .int .i64 m]] w fun e w' => e = .returned (.bool (equalS p q r s)) ∧ Plus w w' := by
  go_enter Tryz.func65, Tryz.ntmps65
  go_upto_region 1 with fail
  go_cut [] (fun wx => ∃ x1 x2, wx = plus (plus ((w.alloc (.cells #[.int .i64 p, .int .i64 q] 23)).alloc (.cells #[.int .i64 r, .int .i64 s] 23)) x1) x2)
  case first =>
    go_region_with (first | (go_at_call_of 128 (Value.agg #[.int .i64 k, .int .i64 n]); refine (valid_h h1 _).mono ?_; rintro e w1 ⟨rfl, ⟨x1, rfl⟩⟩) | (go_at_call_of 128 (Value.agg #[.int .i64 l, .int .i64 m]); refine (valid_h h2 _).mono ?_; rintro e w1 ⟨rfl, ⟨x1, rfl⟩⟩))
    all_goals (go_wp2_with fail; go_meet; exact ⟨_, _, rfl⟩)
  case rest =>
    obtain ⟨x1, x2, rfl⟩ := hcut
    have g1 := hp.out
    have g2 := hr.out
    clear h1 h2 hp hr
    have HE := Lib.hid (rfl : equalS p q r s = equalS p q r s)
    by_cases hp2 : p = 2
    · subst hp2
      go_wp2_with fail
      refine wp_region_plus (by kernel_rfl) (by kernel_rfl) ?_
      repeat (go_big_quiet_step ((first | (go_at_call 129; exact calls_plus (isNaN_c _ _ _)) | (go_at_call 130; exact calls_plus (place_c _ _ _)))))
      refine wpQuiet_nil ?_
      intro _ hw'
      obtain ⟨x3, rfl⟩ := hw'
      go_wp2_with fail
      go_returns
      refine ⟨?_, ?_⟩
      · simp [equalS]
      · repeat' (first | exact Plus.refl _ | refine Plus.alloc ?_ _ | refine Plus.plus ?_ _ | refine Plus.drew ?_ | refine Plus.drewN ?_ _)
    by_cases hr2 : r = 2
    · subst hr2
      have e2 := beq_f hp2
      go_wp2_with fail
      refine wp_region_plus (by kernel_rfl) (by kernel_rfl) ?_
      repeat (go_big_quiet_step ((first | (go_at_call 129; exact calls_plus (isNaN_c _ _ _)) | (go_at_call 130; exact calls_plus (place_c _ _ _)))))
      refine wpQuiet_nil ?_
      intro _ hw'
      obtain ⟨x3, rfl⟩ := hw'
      go_wp2_with fail
      go_returns
      refine ⟨?_, ?_⟩
      · simp [equalS, e2]
      · repeat' (first | exact Plus.refl _ | refine Plus.alloc ?_ _ | refine Plus.plus ?_ _ | refine Plus.drew ?_ | refine Plus.drewN ?_ _)
    · have e2 := beq_f hp2
      have e3 := beq_f hr2
      go_wp2_with fail
      refine wp_region_plus (by kernel_rfl) (by kernel_rfl) ?_
      repeat (go_big_quiet_step ((first | (go_at_call 129; exact calls_plus (isNaN_c _ _ _)) | (go_at_call 130; exact calls_plus (place_c _ _ _)))))
      refine wpQuiet_nil ?_
      intro _ hw'
      obtain ⟨x3, rfl⟩ := hw'
      go_wp2_with fail
      go_returns
      refine ⟨?_, ?_⟩
      · simp [equalS, e2, e3]
      · repeat' (first | exact Plus.refl _ | refine Plus.alloc ?_ _ | refine Plus.plus ?_ _ | refine Plus.drew ?_ | refine Plus.drewN ?_ _)

theorem numEqual_c (k n l m : Int) (w : World) : Calls Tryz.prog 65 #[.agg #[.int .i64 k, .int .i64 n], .agg #[.int .i64 l, .int .i64 m]] w fun e w' => e = .returned (.bool (equalR k n l m)) ∧ Plus w w' :=
  numEqual_h k n l m _ _ _ _ ⟨rfl, rfl⟩ ⟨rfl, rfl⟩ (isV_v k n) (isV_v l m) w

set_option maxHeartbeats 4000000 in
theorem text_i (k n p q : Int) (hv : Hid (vk k n = p ∧ vn k n = q)) (b2 : (p == 2) = false) (b3 : (p == 3) = false) (b4 : (p == 4) = false) (h0 : -9223372036854775808 ≤ q) (h1 : q ≤ 9223372036854775807) (T : ByteArray) (hT : Hid (T = ⟨(Lib.itoa q).toArray⟩)) (w : World) (hL : Hid (Lai w)) :
    Calls Tryz.prog 200 #[.agg #[.int .i64 k, .int .i64 n]] w fun e w' => e = .returned (.string T) ∧ Plus w w' := by
  go_enter Tryz.func200, Tryz.ntmps200
  go_wp2_with (first | (go_at_call 128; (with_reducible refine (valid_h hv _).mono ?_); rintro e w1 ⟨rfl, ⟨x1, rfl⟩⟩) | (go_at_call 214; (with_reducible refine (itoa_c q h0 h1 _ (hL.out.plus (by repeat' (first | exact Plus.refl _ | refine Plus.alloc ?_ _ | refine Plus.plus ?_ _ | refine Plus.drew ?_ | refine Plus.drewN ?_ _)))).mono ?_); rintro e w1 ⟨rfl, ⟨x2, rfl⟩⟩; rw [← hT.out]))
  go_returns
  exact ⟨rfl, (by repeat' (first | exact Plus.refl _ | refine Plus.alloc ?_ _ | refine Plus.plus ?_ _ | refine Plus.drew ?_ | refine Plus.drewN ?_ _))⟩

set_option maxHeartbeats 4000000 in
theorem text_n (k n : Int) (hv : Hid (vk k n = 2 ∧ vn k n = 0)) (w : World) : Calls Tryz.prog 200 #[.agg #[.int .i64 k, .int .i64 n]] w fun e w' => e = .returned (.string ⟨#[78, 97, 78]⟩) ∧ Plus w w' := by
  go_enter Tryz.func200, Tryz.ntmps200
  go_wp2_with (first | (go_at_call 128; (with_reducible refine (valid_h hv _).mono ?_); rintro e w1 ⟨rfl, ⟨x1, rfl⟩⟩))
  go_returns
  exact ⟨rfl, (by repeat' (first | exact Plus.refl _ | refine Plus.alloc ?_ _ | refine Plus.plus ?_ _ | refine Plus.drew ?_ | refine Plus.drewN ?_ _))⟩

set_option maxHeartbeats 4000000 in
theorem text_p (k n : Int) (hv : Hid (vk k n = 3 ∧ vn k n = 0)) (w : World) : Calls Tryz.prog 200 #[.agg #[.int .i64 k, .int .i64 n]] w fun e w' => e = .returned (.string ⟨#[73, 110, 102, 105, 110, 105, 116, 121]⟩) ∧ Plus w w' := by
  go_enter Tryz.func200, Tryz.ntmps200
  go_wp2_with (first | (go_at_call 128; (with_reducible refine (valid_h hv _).mono ?_); rintro e w1 ⟨rfl, ⟨x1, rfl⟩⟩))
  go_returns
  exact ⟨rfl, (by repeat' (first | exact Plus.refl _ | refine Plus.alloc ?_ _ | refine Plus.plus ?_ _ | refine Plus.drew ?_ | refine Plus.drewN ?_ _))⟩

set_option maxHeartbeats 4000000 in
theorem text_m (k n : Int) (hv : Hid (vk k n = 4 ∧ vn k n = 0)) (w : World) : Calls Tryz.prog 200 #[.agg #[.int .i64 k, .int .i64 n]] w fun e w' => e = .returned (.string ⟨#[45, 73, 110, 102, 105, 110, 105, 116, 121]⟩) ∧ Plus w w' := by
  go_enter Tryz.func200, Tryz.ntmps200
  go_wp2_with (first | (go_at_call 128; (with_reducible refine (valid_h hv _).mono ?_); rintro e w1 ⟨rfl, ⟨x1, rfl⟩⟩))
  go_returns
  exact ⟨rfl, (by repeat' (first | exact Plus.refl _ | refine Plus.alloc ?_ _ | refine Plus.plus ?_ _ | refine Plus.drew ?_ | refine Plus.drewN ?_ _))⟩

theorem text_c (k n : Int) (w : World) (hL : Lai w) : Calls Tryz.prog 200 #[.agg #[.int .i64 k, .int .i64 n]] w fun e w' => e = .returned (.string ⟨(txtR k n).toArray⟩) ∧ Plus w w' := by
  have hv := isV_v k n
  unfold txtR
  obtain ⟨p, hp⟩ : ∃ p, vk k n = p := ⟨_, rfl⟩
  obtain ⟨q, hq⟩ : ∃ q, vn k n = q := ⟨_, rfl⟩
  rw [hp, hq] at hv
  rw [hp, hq]
  rcases hv with ⟨rfl, h1, h2⟩ | ⟨rfl, rfl⟩ | ⟨rfl, rfl⟩ | ⟨rfl, rfl⟩ | ⟨rfl, rfl⟩
  · exact text_i k n 0 q (Lib.hid ⟨hp, hq⟩) (by decide) (by decide) (by decide) (by omega) (by omega) _ (Lib.hid (by unfold txtS; rw [if_neg (by decide), if_neg (by decide), if_neg (by decide)])) w (Lib.hid hL)
  · exact text_i k n 1 0 (Lib.hid ⟨hp, hq⟩) (by decide) (by decide) (by decide) (by omega) (by omega) _ (Lib.hid (by unfold txtS; rw [if_neg (by decide), if_neg (by decide), if_neg (by decide)])) w (Lib.hid hL)
  · exact text_n k n (Lib.hid ⟨hp, hq⟩) w
  · exact text_p k n (Lib.hid ⟨hp, hq⟩) w
  · exact text_m k n (Lib.hid ⟨hp, hq⟩) w
theorem text_v {k n : Int} {T : ByteArray} (h : Hid ((⟨(txtR k n).toArray⟩ : ByteArray) = T)) (w : World) (hL : Lai w) : Calls Tryz.prog 200 #[.agg #[.int .i64 k, .int .i64 n]] w fun e w' => e = .returned (.string T) ∧ Plus w w' := by
  have c := text_c k n w hL
  rw [h.out] at c
  exact c
end Go.Proofs.YtgljfgkkolfnbaaGreatDoor
