/- The document's numbers: Whole, Less, Equal, Index, Text. -/
import Derived.Test.YtakahpbondaidaaGreatDoorZK
import Derived.Test.YtakahpbondaidaaGreatDoorZJ
namespace Go.Proofs.YtakahpbondaidaaGreatDoor
open Go.RowKit

/-- A struct of two ints lies in block b. -/
def Box (w : World) (b : Nat) (k n : Int) : Prop := w.cell? ⟨b, 0, none⟩ = some (.int .i64 k) ∧ w.cell? ⟨b, 1, none⟩ = some (.int .i64 n) ∧ w.frozen? ⟨b, 0, none⟩ = false ∧ w.frozen? ⟨b, 1, none⟩ = false ∧ b < w.heap.size
theorem Box.plus {W w' : World} {b : Nat} {k n : Int} (h : Box W b k n) (hp : Plus W w') : Box w' b k n :=
  ⟨by rw [hp.cell _ _ h.2.2.2.2]; exact h.1, by rw [hp.cell _ _ h.2.2.2.2]; exact h.2.1, by rw [hp.frozen _ _ h.2.2.2.2]; exact h.2.2.1, by rw [hp.frozen _ _ h.2.2.2.2]; exact h.2.2.2.1, Nat.lt_of_lt_of_le h.2.2.2.2 hp.size⟩
theorem Box.new (w : World) (k n : Int) (t : TypeId) : Box (w.alloc (.cells #[.int .i64 k, .int .i64 n] t)) w.heap.size k n :=
  ⟨by rw [World.cell?_alloc_at _ _ _ _ rfl]; rfl, by rw [World.cell?_alloc_at _ _ _ _ rfl]; rfl, World.frozen?_alloc_at _ _ _ _ rfl, World.frozen?_alloc_at _ _ _ _ rfl, by rw [World.size_alloc]; exact Nat.lt_succ_self _⟩
theorem Box.alloc {w : World} {b : Nat} {k n : Int} (h : Box w b k n) (o : Obj) : Box (w.alloc o) b k n := h.plus ((Plus.refl _).alloc o)
theorem Box.grow {w : World} {b : Nat} {k n : Int} (h : Box w b k n) (x : More) : Box (YtakahpbondaidaaGreatDoor.plus w x) b k n := h.plus ⟨x, rfl⟩
theorem Box.drew {w : World} {b : Nat} {k n : Int} (h : Box w b k n) : Box w.drew b k n := h.plus (Plus.refl _).drew
theorem Box.new' {w : World} {b : Nat} {k n : Int} {t : TypeId} (h : b = w.heap.size) : Box (w.alloc (.cells #[.int .i64 k, .int .i64 n] t)) b k n := by
  subst h
  exact Box.new w k n t
theorem lt_three (n : Nat) : n < n + 1 + 1 + 1 := by omega
theorem lt_two (n : Nat) : n < n + 1 + 1 := by omega
theorem lt_three' (n : Nat) : n + 1 < n + 1 + 1 + 1 := by omega
theorem lt_two' (n : Nat) : n + 1 < n + 1 + 1 := by omega
theorem box_S3 {k n l m : Int} {w w' : World} (h : Plus (((w.alloc (.cells #[.int .i64 k, .int .i64 n] 23)).alloc (.cells #[.int .i64 l, .int .i64 m] 23)).alloc (.cells #[.int .i64 0, .int .i64 0] 23)) w') : Plus (((w.alloc (.cells #[.int .i64 k, .int .i64 n] 23)).alloc (.cells #[.int .i64 l, .int .i64 m] 23)).alloc (.cells #[.int .i64 0, .int .i64 0] 23)) w' ∧ w'.cell? ⟨w.heap.size, 0, none⟩ = some (.int .i64 k) ∧ w'.cell? ⟨w.heap.size, 1, none⟩ = some (.int .i64 n) ∧ w'.cell? ⟨w.heap.size + 1, 0, none⟩ = some (.int .i64 l) ∧ w'.cell? ⟨w.heap.size + 1, 1, none⟩ = some (.int .i64 m) := by
  refine ⟨h, ?_, ?_, ?_, ?_⟩
  · rw [h.cell _ _ (by simp only [World.size_alloc]; exact lt_three _)]; simp [go_sem]
  · rw [h.cell _ _ (by simp only [World.size_alloc]; exact lt_three _)]; simp [go_sem]
  · rw [h.cell _ _ (by simp only [World.size_alloc]; exact lt_three' _)]; simp [go_sem]
  · rw [h.cell _ _ (by simp only [World.size_alloc]; exact lt_three' _)]; simp [go_sem]
theorem box_S2 {k n l m : Int} {w w' : World} (h : Plus ((w.alloc (.cells #[.int .i64 k, .int .i64 n] 23)).alloc (.cells #[.int .i64 l, .int .i64 m] 23)) w') : Plus ((w.alloc (.cells #[.int .i64 k, .int .i64 n] 23)).alloc (.cells #[.int .i64 l, .int .i64 m] 23)) w' ∧ w'.cell? ⟨w.heap.size, 0, none⟩ = some (.int .i64 k) ∧ w'.cell? ⟨w.heap.size, 1, none⟩ = some (.int .i64 n) ∧ w'.cell? ⟨w.heap.size + 1, 0, none⟩ = some (.int .i64 l) ∧ w'.cell? ⟨w.heap.size + 1, 1, none⟩ = some (.int .i64 m) := by
  refine ⟨h, ?_, ?_, ?_, ?_⟩
  · rw [h.cell _ _ (by simp only [World.size_alloc]; exact lt_two _)]; simp [go_sem]
  · rw [h.cell _ _ (by simp only [World.size_alloc]; exact lt_two _)]; simp [go_sem]
  · rw [h.cell _ _ (by simp only [World.size_alloc]; exact lt_two' _)]; simp [go_sem]
  · rw [h.cell _ _ (by simp only [World.size_alloc]; exact lt_two' _)]; simp [go_sem]
theorem box_r {k n l m : Int} {w w' : World} (h : Plus (((w.alloc (.cells #[.int .i64 k, .int .i64 n] 23)).alloc (.cells #[.int .i64 l, .int .i64 m] 23)).alloc (.cells #[.int .i64 0, .int .i64 0] 23)) w') : Box w' (w.heap.size + 1 + 1) 0 0 :=
  (Box.new' (by simp only [World.size_alloc])).plus h
theorem Plus.of_alloc {w w' : World} {o : Obj} (h : Plus (w.alloc o) w') : Plus w w' := ((Plus.refl w).alloc o).trans h

class HasCell (w : World) (n i : Nat) : Prop where out : ∃ u, w.cell? ⟨n, i, none⟩ = some u
instance (w : World) (n i : Nat) (a : Addr) (v : Value) [h : HasCell w n i] : HasCell (w.setCell a v) n i := ⟨by
  obtain ⟨u, hu⟩ := h.out
  obtain ⟨v', hy⟩ := cell?_setCell_some (w := w) (p := a) (x := v) (q := ⟨n, i, none⟩) (v := u) hu
  exact ⟨_, hy⟩⟩
@[go_sem] theorem cell?_setCell_has (w : World) (n i : Nat) (v : Value) [h : HasCell w n i] : (w.setCell ⟨n, i, none⟩ v).cell? ⟨n, i, none⟩ = some v := by
  obtain ⟨u, hu⟩ := h.out
  simp [go_sem, hu]

set_option maxHeartbeats 2000000 in
theorem r1whole_h {k n p q : Int} (h1 : Hid (vk k n = p ∧ vn k n = q)) (hp : Hid (IsV p q)) (w : World) :
    Calls Tryz.prog 127 #[.agg #[.int .i64 k, .int .i64 n]] w fun e w' => e = .returned (.agg #[.int .i64 (wholeS p q).k, .int .i64 (wholeS p q).n]) ∧ Plus w w' := by
  have g1 := hp.out
  clear hp
  rcases g1 with ⟨rfl, hq1, hq2⟩ | ⟨rfl, rfl⟩ | ⟨rfl, rfl⟩ | ⟨rfl, rfl⟩ | ⟨rfl, rfl⟩
  all_goals go_enter Tryz.func127, Tryz.ntmps127
  all_goals go_wp2_with (first | (go_at_call 122; refine (rgood_h h1 _).mono ?_; rintro e w1 ⟨rfl, ⟨x0, rfl⟩⟩) | (go_at_call 135; refine (rnan_c _ _ _).mono ?_; rintro e w1 ⟨rfl, ⟨x1, rfl⟩⟩))
  all_goals go_returns
  all_goals refine ⟨?_, ?_⟩
  all_goals first | (simp [wholeS, *]; done) | (with_reducible (repeat' (first | exact Plus.refl _ | refine Plus.alloc ?_ _ | refine Plus.plus ?_ _ | refine Plus.drew ?_ | refine Plus.drewN ?_ _)); done) | (simp_all [wholeS]; done) | skip
  all_goals go_show

theorem r1whole_c (k n : Int) (w : World) : Calls Tryz.prog 127 #[.agg #[.int .i64 k, .int .i64 n]] w fun e w' => e = .returned (.agg #[.int .i64 (wholeR k n).k, .int .i64 (wholeR k n).n]) ∧ Plus w w' :=
  r1whole_h ⟨rfl, rfl⟩ (isV_v k n) w

set_option maxHeartbeats 4000000 in
theorem rless_h (k n l m p q r s : Int) (h1 : Hid (vk k n = p ∧ vn k n = q)) (h2 : Hid (vk l m = r ∧ vn l m = s)) (hp : Hid (IsV p q)) (hr : Hid (IsV r s)) (w : World) :
    Calls Tryz.prog 207 #[.agg #[.int .i64 k, .int .i64 n], .agg #[.int .i64 l, .int .i64 m]] w fun e w' => e = .returned (.bool (lessS p q r s)) ∧ Plus w w' := by
  go_enter Tryz.func207, Tryz.ntmps207
  go_upto_region 1 with fail
  go_cut [5, 6] (fun sa sb wx => ∃ b c, sa = .pointer (some ⟨b, 0, none⟩) ∧ sb = .pointer (some ⟨c, 0, none⟩) ∧ Plus ((w.alloc (.cells #[.int .i64 k, .int .i64 n] 23)).alloc (.cells #[.int .i64 l, .int .i64 m] 23)) wx ∧ Box wx b p q ∧ Box wx c r s)
  case first =>
    go_region_held3 (fun w' => Plus ((w.alloc (.cells #[.int .i64 k, .int .i64 n] 23)).alloc (.cells #[.int .i64 l, .int .i64 m] 23)) w' ∧ w'.cell? ⟨w.heap.size, 0, none⟩ = some (.int .i64 k) ∧ w'.cell? ⟨w.heap.size, 1, none⟩ = some (.int .i64 n) ∧ w'.cell? ⟨w.heap.size + 1, 0, none⟩ = some (.int .i64 l) ∧ w'.cell? ⟨w.heap.size + 1, 1, none⟩ = some (.int .i64 m))
      (exact box_S2 (by repeat' (first | exact Plus.refl _ | refine Plus.alloc ?_ _ | refine Plus.plus ?_ _ | refine Plus.drew ?_ | refine Plus.drewN ?_ _)))
      (first | (go_at_call_of 122 (Value.agg #[.int .i64 k, .int .i64 n]); refine (rgood_h h1 _).mono ?_; rintro e w1 ⟨rfl, ⟨x1, rfl⟩⟩) | (go_at_call_of 122 (Value.agg #[.int .i64 l, .int .i64 m]); refine (rgood_h h2 _).mono ?_; rintro e w1 ⟨rfl, ⟨x1, rfl⟩⟩))
    all_goals (go_wp2_with fail; go_meet; refine ⟨_, _, rfl, rfl, ?_, ?_, ?_⟩)
    all_goals first | ((repeat' (first | exact Plus.refl _ | refine Plus.alloc ?_ _ | refine Plus.plus ?_ _ | refine Plus.drew ?_ | refine Plus.drewN ?_ _)); done) | ((repeat' (first | (refine Box.new' ?_; (simp [go_sem]; done)) | refine Box.alloc ?_ _ | refine Box.grow ?_ _ | refine Box.drew ?_)); done) | skip
    all_goals go_show
  case rest =>
    obtain ⟨b, c, rfl, rfl, hP, hb, hc⟩ := hcut
    have hPw := hP.of_alloc.of_alloc
    clear hP
    have g1 := hp.out
    have g2 := hr.out
    clear h1 h2 hp hr
    obtain ⟨hb0, hb1, hb2, hb3, hb4⟩ := hb
    obtain ⟨hc0, hc1, hc2, hc3, hc4⟩ := hc
    haveI : Old b wc := ⟨hb4⟩
    haveI : Old c wc := ⟨hc4⟩
    clear hb4 hc4
    have HE := Lib.hid (rfl : lessS p q r s = lessS p q r s)
    by_cases hp2 : p = 2
    · subst hp2
      go_wp2_with fail
      refine wp_region_plus (by kernel_rfl) (by kernel_rfl) ?_
      repeat (go_big_quiet_step ((first | (go_at_call 135; exact calls_plus (rnan_c _ _ _)) | (go_at_call 136; exact calls_plus (rrank_c _ _ _)))))
      refine wpQuiet_nil ?_
      intro _ hw'
      obtain ⟨x3, rfl⟩ := hw'
      go_wp2_with fail
      go_returns
      refine ⟨?_, ?_⟩
      · simp [lessS]
      · repeat' (first | exact hPw | refine Plus.alloc ?_ _ | refine Plus.plus ?_ _ | (refine Plus.setCell ?_ (by show w.heap.size ≤ w.heap.size + 1 + 1; omega) _) | refine Plus.drew ?_ | refine Plus.drewN ?_ _)
    by_cases hr2 : r = 2
    · subst hr2
      have e2 := beq_f hp2
      go_wp2_with fail
      refine wp_region_plus (by kernel_rfl) (by kernel_rfl) ?_
      repeat (go_big_quiet_step ((first | (go_at_call 135; exact calls_plus (rnan_c _ _ _)) | (go_at_call 136; exact calls_plus (rrank_c _ _ _)))))
      refine wpQuiet_nil ?_
      intro _ hw'
      obtain ⟨x3, rfl⟩ := hw'
      go_wp2_with fail
      go_returns
      refine ⟨?_, ?_⟩
      · simp [lessS, e2]
      · repeat' (first | exact hPw | refine Plus.alloc ?_ _ | refine Plus.plus ?_ _ | (refine Plus.setCell ?_ (by show w.heap.size ≤ w.heap.size + 1 + 1; omega) _) | refine Plus.drew ?_ | refine Plus.drewN ?_ _)
    · have e2 := beq_f hp2
      have e3 := beq_f hr2
      go_wp2_with fail
      refine wp_region_plus (by kernel_rfl) (by kernel_rfl) ?_
      repeat (go_big_quiet_step ((first | (go_at_call 135; exact calls_plus (rnan_c _ _ _)) | (go_at_call 136; exact calls_plus (rrank_c _ _ _)))))
      refine wpQuiet_nil ?_
      intro _ hw'
      obtain ⟨x3, rfl⟩ := hw'
      go_wp2_with fail
      go_returns
      refine ⟨?_, ?_⟩
      · simp [lessS, e2, e3]
      · repeat' (first | exact hPw | refine Plus.alloc ?_ _ | refine Plus.plus ?_ _ | (refine Plus.setCell ?_ (by show w.heap.size ≤ w.heap.size + 1 + 1; omega) _) | refine Plus.drew ?_ | refine Plus.drewN ?_ _)

theorem rless_c (k n l m : Int) (w : World) : Calls Tryz.prog 207 #[.agg #[.int .i64 k, .int .i64 n], .agg #[.int .i64 l, .int .i64 m]] w fun e w' => e = .returned (.bool (lessR k n l m)) ∧ Plus w w' :=
  rless_h k n l m _ _ _ _ ⟨rfl, rfl⟩ ⟨rfl, rfl⟩ (isV_v k n) (isV_v l m) w
set_option maxHeartbeats 4000000 in
theorem requal_h (k n l m p q r s : Int) (h1 : Hid (vk k n = p ∧ vn k n = q)) (h2 : Hid (vk l m = r ∧ vn l m = s)) (hp : Hid (IsV p q)) (hr : Hid (IsV r s)) (w : World) :
    Calls Tryz.prog 76 #[.agg #[.int .i64 k, .int .i64 n], .agg #[.int .i64 l, .int .i64 m]] w fun e w' => e = .returned (.bool (equalS p q r s)) ∧ Plus w w' := by
  go_enter Tryz.func76, Tryz.ntmps76
  go_upto_region 1 with fail
  go_cut [5, 6] (fun sa sb wx => ∃ b c, sa = .pointer (some ⟨b, 0, none⟩) ∧ sb = .pointer (some ⟨c, 0, none⟩) ∧ Plus ((w.alloc (.cells #[.int .i64 k, .int .i64 n] 23)).alloc (.cells #[.int .i64 l, .int .i64 m] 23)) wx ∧ Box wx b p q ∧ Box wx c r s)
  case first =>
    go_region_held3 (fun w' => Plus ((w.alloc (.cells #[.int .i64 k, .int .i64 n] 23)).alloc (.cells #[.int .i64 l, .int .i64 m] 23)) w' ∧ w'.cell? ⟨w.heap.size, 0, none⟩ = some (.int .i64 k) ∧ w'.cell? ⟨w.heap.size, 1, none⟩ = some (.int .i64 n) ∧ w'.cell? ⟨w.heap.size + 1, 0, none⟩ = some (.int .i64 l) ∧ w'.cell? ⟨w.heap.size + 1, 1, none⟩ = some (.int .i64 m))
      (exact box_S2 (by repeat' (first | exact Plus.refl _ | refine Plus.alloc ?_ _ | refine Plus.plus ?_ _ | refine Plus.drew ?_ | refine Plus.drewN ?_ _)))
      (first | (go_at_call_of 122 (Value.agg #[.int .i64 k, .int .i64 n]); refine (rgood_h h1 _).mono ?_; rintro e w1 ⟨rfl, ⟨x1, rfl⟩⟩) | (go_at_call_of 122 (Value.agg #[.int .i64 l, .int .i64 m]); refine (rgood_h h2 _).mono ?_; rintro e w1 ⟨rfl, ⟨x1, rfl⟩⟩))
    all_goals (go_wp2_with fail; go_meet; refine ⟨_, _, rfl, rfl, ?_, ?_, ?_⟩)
    all_goals first | ((repeat' (first | exact Plus.refl _ | refine Plus.alloc ?_ _ | refine Plus.plus ?_ _ | refine Plus.drew ?_ | refine Plus.drewN ?_ _)); done) | ((repeat' (first | (refine Box.new' ?_; (simp [go_sem]; done)) | refine Box.alloc ?_ _ | refine Box.grow ?_ _ | refine Box.drew ?_)); done) | skip
    all_goals go_show
  case rest =>
    obtain ⟨b, c, rfl, rfl, hP, hb, hc⟩ := hcut
    have hPw := hP.of_alloc.of_alloc
    clear hP
    have g1 := hp.out
    have g2 := hr.out
    clear h1 h2 hp hr
    obtain ⟨hb0, hb1, hb2, hb3, hb4⟩ := hb
    obtain ⟨hc0, hc1, hc2, hc3, hc4⟩ := hc
    haveI : Old b wc := ⟨hb4⟩
    haveI : Old c wc := ⟨hc4⟩
    clear hb4 hc4
    have HE := Lib.hid (rfl : equalS p q r s = equalS p q r s)
    by_cases hp2 : p = 2
    · subst hp2
      go_wp2_with fail
      refine wp_region_plus (by kernel_rfl) (by kernel_rfl) ?_
      repeat (go_big_quiet_step ((first | (go_at_call 135; exact calls_plus (rnan_c _ _ _)) | (go_at_call 136; exact calls_plus (rrank_c _ _ _)))))
      refine wpQuiet_nil ?_
      intro _ hw'
      obtain ⟨x3, rfl⟩ := hw'
      go_wp2_with fail
      go_returns
      refine ⟨?_, ?_⟩
      · simp [equalS]
      · repeat' (first | exact hPw | refine Plus.alloc ?_ _ | refine Plus.plus ?_ _ | (refine Plus.setCell ?_ (by show w.heap.size ≤ w.heap.size + 1 + 1; omega) _) | refine Plus.drew ?_ | refine Plus.drewN ?_ _)
    by_cases hr2 : r = 2
    · subst hr2
      have e2 := beq_f hp2
      go_wp2_with fail
      refine wp_region_plus (by kernel_rfl) (by kernel_rfl) ?_
      repeat (go_big_quiet_step ((first | (go_at_call 135; exact calls_plus (rnan_c _ _ _)) | (go_at_call 136; exact calls_plus (rrank_c _ _ _)))))
      refine wpQuiet_nil ?_
      intro _ hw'
      obtain ⟨x3, rfl⟩ := hw'
      go_wp2_with fail
      go_returns
      refine ⟨?_, ?_⟩
      · simp [equalS, e2]
      · repeat' (first | exact hPw | refine Plus.alloc ?_ _ | refine Plus.plus ?_ _ | (refine Plus.setCell ?_ (by show w.heap.size ≤ w.heap.size + 1 + 1; omega) _) | refine Plus.drew ?_ | refine Plus.drewN ?_ _)
    · have e2 := beq_f hp2
      have e3 := beq_f hr2
      go_wp2_with fail
      refine wp_region_plus (by kernel_rfl) (by kernel_rfl) ?_
      repeat (go_big_quiet_step ((first | (go_at_call 135; exact calls_plus (rnan_c _ _ _)) | (go_at_call 136; exact calls_plus (rrank_c _ _ _)))))
      refine wpQuiet_nil ?_
      intro _ hw'
      obtain ⟨x3, rfl⟩ := hw'
      go_wp2_with fail
      go_returns
      refine ⟨?_, ?_⟩
      · simp [equalS, e2, e3]
      · repeat' (first | exact hPw | refine Plus.alloc ?_ _ | refine Plus.plus ?_ _ | (refine Plus.setCell ?_ (by show w.heap.size ≤ w.heap.size + 1 + 1; omega) _) | refine Plus.drew ?_ | refine Plus.drewN ?_ _)

theorem requal_c (k n l m : Int) (w : World) : Calls Tryz.prog 76 #[.agg #[.int .i64 k, .int .i64 n], .agg #[.int .i64 l, .int .i64 m]] w fun e w' => e = .returned (.bool (equalR k n l m)) ∧ Plus w w' :=
  requal_h k n l m _ _ _ _ ⟨rfl, rfl⟩ ⟨rfl, rfl⟩ (isV_v k n) (isV_v l m) w

theorem rindex_c (k n : Int) (w : World) : Calls Tryz.prog 65 #[.agg #[.int .i64 k, .int .i64 n]] w fun e w' => e = .returned (.tuple #[.int .i64 (indexR k n), .bool (indexO k n)]) ∧ Plus w w' := by
  have H1 := Lib.hid (show ∀ a b, a = indexR k n → b = indexO k n → (Ending.returned (.tuple #[.int .i64 a, .bool b])) = .returned (.tuple #[.int .i64 (indexR k n), .bool (indexO k n)]) from fun a b ha hb => by rw [ha, hb])
  go_enter Tryz.func65, Tryz.ntmps65
  go_wp2_with ((go_at_call 127; refine (r1whole_c _ _ _).mono ?_; rintro e w1 ⟨rfl, ⟨x1, rfl⟩⟩))
  all_goals go_returns
  all_goals refine ⟨H1.out _ _ ?_ ?_, ?_⟩
  all_goals first | (with_reducible (repeat' (first | exact Plus.refl _ | refine Plus.alloc ?_ _ | refine Plus.plus ?_ _ | refine Plus.drew ?_ | refine Plus.drewN ?_ _)); done) | (unfold indexR indexS; simp_all; done) | (unfold indexO indexB; simp_all; done) | (unfold indexR indexS; simp_all; omega) | (unfold indexO indexB; simp_all; omega)
set_option maxHeartbeats 4000000 in
theorem rtext_i (k n p q : Int) (hv : Hid (vk k n = p ∧ vn k n = q)) (b2 : (p == 2) = false) (b3 : (p == 3) = false) (b4 : (p == 4) = false) (h0 : -9223372036854775808 ≤ q) (h1 : q ≤ 9223372036854775807) (T : ByteArray) (hT : Hid ((⟨(Lib.itoa q).toArray⟩ : ByteArray) = T)) (w : World) :
    Calls Tryz.prog 62 #[.agg #[.int .i64 k, .int .i64 n]] w fun e w' => e = .returned (.string T) ∧ Plus w w' := by
  go_enter Tryz.func62, Tryz.ntmps62
  go_wp2_with (first | (go_at_call 122; (with_reducible refine (rgood_h hv _).mono ?_); rintro e w1 ⟨rfl, ⟨x1, rfl⟩⟩) | (go_at_call 123; (with_reducible refine (rdec_v h0 h1 hT _).mono ?_); rintro e w1 ⟨rfl, ⟨x2, rfl⟩⟩))
  go_returns
  exact ⟨rfl, (by repeat' (first | exact Plus.refl _ | refine Plus.alloc ?_ _ | refine Plus.plus ?_ _ | refine Plus.drew ?_ | refine Plus.drewN ?_ _))⟩

set_option maxHeartbeats 4000000 in
theorem rtext_n (k n : Int) (hv : Hid (vk k n = 2 ∧ vn k n = 0)) (w : World) : Calls Tryz.prog 62 #[.agg #[.int .i64 k, .int .i64 n]] w fun e w' => e = .returned (.string ⟨#[78, 97, 78]⟩) ∧ Plus w w' := by
  go_enter Tryz.func62, Tryz.ntmps62
  go_wp2_with (first | (go_at_call 122; (with_reducible refine (rgood_h hv _).mono ?_); rintro e w1 ⟨rfl, ⟨x1, rfl⟩⟩))
  go_returns
  exact ⟨rfl, (by repeat' (first | exact Plus.refl _ | refine Plus.alloc ?_ _ | refine Plus.plus ?_ _ | refine Plus.drew ?_ | refine Plus.drewN ?_ _))⟩

set_option maxHeartbeats 4000000 in
theorem rtext_p (k n : Int) (hv : Hid (vk k n = 3 ∧ vn k n = 0)) (w : World) : Calls Tryz.prog 62 #[.agg #[.int .i64 k, .int .i64 n]] w fun e w' => e = .returned (.string ⟨#[73, 110, 102, 105, 110, 105, 116, 121]⟩) ∧ Plus w w' := by
  go_enter Tryz.func62, Tryz.ntmps62
  go_wp2_with (first | (go_at_call 122; (with_reducible refine (rgood_h hv _).mono ?_); rintro e w1 ⟨rfl, ⟨x1, rfl⟩⟩))
  go_returns
  exact ⟨rfl, (by repeat' (first | exact Plus.refl _ | refine Plus.alloc ?_ _ | refine Plus.plus ?_ _ | refine Plus.drew ?_ | refine Plus.drewN ?_ _))⟩

set_option maxHeartbeats 4000000 in
theorem rtext_m (k n : Int) (hv : Hid (vk k n = 4 ∧ vn k n = 0)) (w : World) : Calls Tryz.prog 62 #[.agg #[.int .i64 k, .int .i64 n]] w fun e w' => e = .returned (.string ⟨#[45, 73, 110, 102, 105, 110, 105, 116, 121]⟩) ∧ Plus w w' := by
  go_enter Tryz.func62, Tryz.ntmps62
  go_wp2_with (first | (go_at_call 122; (with_reducible refine (rgood_h hv _).mono ?_); rintro e w1 ⟨rfl, ⟨x1, rfl⟩⟩))
  go_returns
  exact ⟨rfl, (by repeat' (first | exact Plus.refl _ | refine Plus.alloc ?_ _ | refine Plus.plus ?_ _ | refine Plus.drew ?_ | refine Plus.drewN ?_ _))⟩

theorem rtext_v {k n : Int} {T : ByteArray} (h : Hid ((⟨(txtR k n).toArray⟩ : ByteArray) = T)) (w : World) : Calls Tryz.prog 62 #[.agg #[.int .i64 k, .int .i64 n]] w fun e w' => e = .returned (.string T) ∧ Plus w w' := by
  obtain rfl := h.out
  have hv := isV_v k n
  unfold txtR
  obtain ⟨p, hp⟩ : ∃ p, vk k n = p := ⟨_, rfl⟩
  obtain ⟨q, hq⟩ : ∃ q, vn k n = q := ⟨_, rfl⟩
  rw [hp, hq] at hv
  rw [hp, hq]
  rcases hv with ⟨rfl, h1, h2⟩ | ⟨rfl, rfl⟩ | ⟨rfl, rfl⟩ | ⟨rfl, rfl⟩ | ⟨rfl, rfl⟩
  · exact rtext_i k n 0 q (Lib.hid ⟨hp, hq⟩) (by decide) (by decide) (by decide) (by omega) (by omega) _ (Lib.hid (by unfold txtS; rw [if_neg (by decide), if_neg (by decide), if_neg (by decide)])) w
  · exact rtext_i k n 1 0 (Lib.hid ⟨hp, hq⟩) (by decide) (by decide) (by decide) (by omega) (by omega) _ (Lib.hid (by unfold txtS; rw [if_neg (by decide), if_neg (by decide), if_neg (by decide)])) w
  · exact rtext_n k n (Lib.hid ⟨hp, hq⟩) w
  · exact rtext_p k n (Lib.hid ⟨hp, hq⟩) w
  · exact rtext_m k n (Lib.hid ⟨hp, hq⟩) w

end Go.Proofs.YtakahpbondaidaaGreatDoor
