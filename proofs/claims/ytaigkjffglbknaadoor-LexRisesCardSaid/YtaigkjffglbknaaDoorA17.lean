/- Contracts: the token at a unit. -/
import Derived.Test.YtaigkjffglbknaaDoorA16
namespace Go.Proofs.YtaigkjffglbknaaDoor
open Go.RowKit

set_option maxRecDepth 100000 in
set_option maxHeartbeats 8000000 in
theorem red_p0 (g o : Nat) (ys : List Nat) (n c a v : Nat) (w : World) (R : Hid (Ar .u16 65536 w (some ⟨g, o + a, none⟩) ys (n - a) (c - a))) (hg : g < w.heap.size) (ha : a < n) (hcap : n ≤ c) (hn : n ≤ 140737488355) (HV : Hid (uAt ys 0 = v)) (hvb : v < 65536) (hcell : w.cell? ⟨g, o + a, none⟩ = some (.int .u16 v)) (h0l : 0 < n - a) (HL : Hid (isLet v = true)) : Calls Tryd.prog 32 #[.slice (some ⟨g, o, none⟩) n c, .int .i64 a] w (RetTok (redM ys (decide (a = 0))) w) := by
  have HM : Hid (redM ys (decide (a = 0)) = wrdM ys) := Lib.hid (by
    rw [redM, HV.out, HL.out]
    rfl)
  go_enter Tryd.func32, Tryd.ntmps32
  go_wp2_with (first | (go_at_call 35; (with_reducible refine (isLet_c v hvb _).mono ?_); rintro e w1 ⟨rfl, rfl⟩; rw [HL.out]) | (go_at_call 45; (with_reducible refine (wrd_c _ ys _ _ _ (R.out.plus (by repeat' (first | exact Plus.refl _ | refine Plus.alloc ?_ _ | refine Plus.plus ?_ _ | refine Plus.drew ?_ | refine Plus.drewN ?_ _))) (by omega)).mono ?_); rintro e w1 ⟨As, cs, Am, cm, rfl, hM, ⟨x5, rfl⟩⟩; have HMM := Lib.hid hM; clear hM; unfold tkV))
  go_returns
  rw [HM.out]
  refine ⟨As, cs, Am, cm, rfl, TkM.exc (b := w.heap.size) HMM.out ?ze ?zn ?zm, ?zp⟩
  case ze => repeat' (first | exact Exc.base _ _ _ | refine Exc.alloc ?_ _ | refine Exc.plus ?_ _ | refine Exc.drew ?_ | refine Exc.drewN ?_ _)
  case zn => exact noInt_of (C := #[.int .i64 0, .string ⟨#[]⟩, .slice none 0 0, .int .i64 0, .int .i64 0, .bool false, .slice none 0 0, .int .i64 0, .bool false]) (fun i => by simp only [go_sem]) rfl
  case zm => exact noInt_of (C := #[.int .i64 0, .string ⟨#[]⟩, .slice none 0 0, .int .i64 0, .int .i64 0, .bool false, .slice none 0 0, .int .i64 0, .bool false]) (fun i => by simp only [go_sem]) rfl
  case zp => repeat' (first | exact Plus.refl _ | refine Plus.alloc ?_ _ | refine Plus.plus ?_ _ | refine Plus.drew ?_ | refine Plus.drewN ?_ _)
set_option maxRecDepth 100000 in
set_option maxHeartbeats 8000000 in
theorem red_p1 (g o : Nat) (ys : List Nat) (n c a v : Nat) (w : World) (R : Hid (Ar .u16 65536 w (some ⟨g, o + a, none⟩) ys (n - a) (c - a))) (hg : g < w.heap.size) (ha : a < n) (hcap : n ≤ c) (hn : n ≤ 140737488355) (HV : Hid (uAt ys 0 = v)) (hvb : v < 65536) (hcell : w.cell? ⟨g, o + a, none⟩ = some (.int .u16 v)) (h0l : 0 < n - a) (HL : Hid (isLet v = false)) (HD : Hid (isDig v = true)) (HLai : Hid (Lai w)) : Calls Tryd.prog 32 #[.slice (some ⟨g, o, none⟩) n c, .int .i64 a] w (RetTok (redM ys (decide (a = 0))) w) := by
  have HM : Hid (redM ys (decide (a = 0)) = numM ys) := Lib.hid (by
    rw [redM, HV.out, HL.out, HD.out]
    rfl)
  go_enter Tryd.func32, Tryd.ntmps32
  go_wp2_with (first | (go_at_call 35; (with_reducible refine (isLet_c v hvb _).mono ?_); rintro e w1 ⟨rfl, rfl⟩; rw [HL.out]) | (go_at_call 28; (with_reducible refine (isDig_c v hvb _).mono ?_); rintro e w1 ⟨rfl, rfl⟩; rw [HD.out]) | (go_at_call 46; (with_reducible refine (num_c _ ys _ _ _ (R.out.plus (by repeat' (first | exact Plus.refl _ | refine Plus.alloc ?_ _ | refine Plus.plus ?_ _ | refine Plus.drew ?_ | refine Plus.drewN ?_ _))) (by omega) (HLai.out.plus (by repeat' (first | exact Plus.refl _ | refine Plus.alloc ?_ _ | refine Plus.plus ?_ _ | refine Plus.drew ?_ | refine Plus.drewN ?_ _))) (by rw [HV.out, HD.out])).mono ?_); rintro e w1 ⟨As, cs, Am, cm, rfl, hM, ⟨x5, rfl⟩⟩; have HMM := Lib.hid hM; clear hM; unfold tkV))
  go_returns
  rw [HM.out]
  refine ⟨As, cs, Am, cm, rfl, TkM.exc (b := w.heap.size) HMM.out ?ze ?zn ?zm, ?zp⟩
  case ze => repeat' (first | exact Exc.base _ _ _ | refine Exc.alloc ?_ _ | refine Exc.plus ?_ _ | refine Exc.drew ?_ | refine Exc.drewN ?_ _)
  case zn => exact noInt_of (C := #[.int .i64 0, .string ⟨#[]⟩, .slice none 0 0, .int .i64 0, .int .i64 0, .bool false, .slice none 0 0, .int .i64 0, .bool false]) (fun i => by simp only [go_sem]) rfl
  case zm => exact noInt_of (C := #[.int .i64 0, .string ⟨#[]⟩, .slice none 0 0, .int .i64 0, .int .i64 0, .bool false, .slice none 0 0, .int .i64 0, .bool false]) (fun i => by simp only [go_sem]) rfl
  case zp => repeat' (first | exact Plus.refl _ | refine Plus.alloc ?_ _ | refine Plus.plus ?_ _ | refine Plus.drew ?_ | refine Plus.drewN ?_ _)
set_option maxRecDepth 100000 in
set_option maxHeartbeats 8000000 in
theorem red_p2 (g o : Nat) (ys : List Nat) (n c a v : Nat) (w : World) (R : Hid (Ar .u16 65536 w (some ⟨g, o + a, none⟩) ys (n - a) (c - a))) (hg : g < w.heap.size) (ha : a < n) (hcap : n ≤ c) (hn : n ≤ 140737488355) (HV : Hid (uAt ys 0 = v)) (hvb : v < 65536) (hcell : w.cell? ⟨g, o + a, none⟩ = some (.int .u16 v)) (h0l : 0 < n - a) (HL : Hid (isLet v = false)) (HD : Hid (isDig v = false)) (HQ : Hid (isQuo v = true)) : Calls Tryd.prog 32 #[.slice (some ⟨g, o, none⟩) n c, .int .i64 a] w (RetTok (redM ys (decide (a = 0))) w) := by
  have HM : Hid (redM ys (decide (a = 0)) = quoM ys 1 [] ys.length) := Lib.hid (by
    rw [redM, HV.out, HL.out, HD.out, HQ.out]
    rfl)
  go_enter Tryd.func32, Tryd.ntmps32
  go_wp2_with (first | (go_at_call 35; (with_reducible refine (isLet_c v hvb _).mono ?_); rintro e w1 ⟨rfl, rfl⟩; rw [HL.out]) | (go_at_call 28; (with_reducible refine (isDig_c v hvb _).mono ?_); rintro e w1 ⟨rfl, rfl⟩; rw [HD.out]) | (go_at_call 47; (with_reducible refine (isQuo_c v hvb _).mono ?_); rintro e w1 ⟨rfl, rfl⟩; rw [HQ.out]) | (go_at_call 48; (with_reducible refine (quo_c _ ys _ _ _ (R.out.plus (by repeat' (first | exact Plus.refl _ | refine Plus.alloc ?_ _ | refine Plus.plus ?_ _ | refine Plus.drew ?_ | refine Plus.drewN ?_ _))) (by omega) (by omega)).mono ?_); rintro e w1 ⟨As, cs, Am, cm, rfl, hM, ⟨x5, rfl⟩⟩; have HMM := Lib.hid hM; clear hM; unfold tkV))
  go_returns
  rw [HM.out]
  refine ⟨As, cs, Am, cm, rfl, TkM.exc (b := w.heap.size) HMM.out ?ze ?zn ?zm, ?zp⟩
  case ze => repeat' (first | exact Exc.base _ _ _ | refine Exc.alloc ?_ _ | refine Exc.plus ?_ _ | refine Exc.drew ?_ | refine Exc.drewN ?_ _)
  case zn => exact noInt_of (C := #[.int .i64 0, .string ⟨#[]⟩, .slice none 0 0, .int .i64 0, .int .i64 0, .bool false, .slice none 0 0, .int .i64 0, .bool false]) (fun i => by simp only [go_sem]) rfl
  case zm => exact noInt_of (C := #[.int .i64 0, .string ⟨#[]⟩, .slice none 0 0, .int .i64 0, .int .i64 0, .bool false, .slice none 0 0, .int .i64 0, .bool false]) (fun i => by simp only [go_sem]) rfl
  case zp => repeat' (first | exact Plus.refl _ | refine Plus.alloc ?_ _ | refine Plus.plus ?_ _ | refine Plus.drew ?_ | refine Plus.drewN ?_ _)
set_option maxRecDepth 100000 in
set_option maxHeartbeats 8000000 in
theorem red_p3 (g o : Nat) (ys : List Nat) (n c a v : Nat) (w : World) (R : Hid (Ar .u16 65536 w (some ⟨g, o + a, none⟩) ys (n - a) (c - a))) (hg : g < w.heap.size) (ha : a < n) (hcap : n ≤ c) (_hn : n ≤ 140737488355) (HV : Hid (uAt ys 0 = v)) (hvb : v < 65536) (hcell : w.cell? ⟨g, o + a, none⟩ = some (.int .u16 v)) (h0l : 0 < n - a) (HL : Hid (isLet v = false)) (HD : Hid (isDig v = false)) (HQ : Hid (isQuo v = false)) (d46 : ((v : Int) == 46) = true) (nx : Nat) (HX : Hid (uAt ys 1 = nx)) (hxb : nx < 65536) (HG : Hid (isDig nx = true)) : Calls Tryd.prog 32 #[.slice (some ⟨g, o, none⟩) n c, .int .i64 a] w (RetTok (redM ys (decide (a = 0))) w) := by
  have HM : Hid (redM ys (decide (a = 0)) = flt 6) := Lib.hid (by
    rw [redM, HV.out, HL.out, HD.out, HQ.out]
    rw [if_neg (by decide), if_neg (by decide), if_neg (by decide)]
    rw [if_pos ⟨by simp at d46; omega, by rw [HX.out, HG.out]⟩])
  go_enter Tryd.func32, Tryd.ntmps32
  go_wp2_with (first | (go_at_call 35; (with_reducible refine (isLet_c v hvb _).mono ?_); rintro e w1 ⟨rfl, rfl⟩; rw [HL.out]) | (go_at_call 28; (with_reducible refine (isDig_c v hvb _).mono ?_); rintro e w1 ⟨rfl, rfl⟩; rw [HD.out]) | (go_at_call 47; (with_reducible refine (isQuo_c v hvb _).mono ?_); rintro e w1 ⟨rfl, rfl⟩; rw [HQ.out]) | (go_at_call 49; (with_reducible refine (unitAt_j _ ys _ _ 1 _ _ (R.out.plus (by repeat' (first | exact Plus.refl _ | refine Plus.alloc ?_ _ | refine Plus.plus ?_ _ | refine Plus.drew ?_ | refine Plus.drewN ?_ _))) (by omega) (by omega)).mono ?_); rintro e w1 ⟨rfl, rfl⟩; rw [HX.out]) | (go_at_call 28; (with_reducible refine (isDig_c nx hxb _).mono ?_); rintro e w1 ⟨rfl, rfl⟩; rw [HG.out]) | (go_at_call 50; (with_reducible refine (fault_c _ _).mono ?_); rintro e w1 ⟨rfl, ⟨x3, rfl⟩⟩))
  go_returns
  rw [HM.out]
  exact RetTok.er (by repeat' (first | exact Plus.refl _ | refine Plus.alloc ?_ _ | refine Plus.plus ?_ _ | refine Plus.drew ?_ | refine Plus.drewN ?_ _))
set_option maxRecDepth 100000 in
set_option maxHeartbeats 8000000 in
theorem red_p4 (g o : Nat) (ys : List Nat) (n c a v : Nat) (w : World) (R : Hid (Ar .u16 65536 w (some ⟨g, o + a, none⟩) ys (n - a) (c - a))) (hg : g < w.heap.size) (ha : a < n) (hcap : n ≤ c) (hn : n ≤ 140737488355) (HV : Hid (uAt ys 0 = v)) (hvb : v < 65536) (hcell : w.cell? ⟨g, o + a, none⟩ = some (.int .u16 v)) (h0l : 0 < n - a) (HL : Hid (isLet v = false)) (HD : Hid (isDig v = false)) (HQ : Hid (isQuo v = false)) (d46 : ((v : Int) == 46) = true) (nx : Nat) (HX : Hid (uAt ys 1 = nx)) (hxb : nx < 65536) (HG : Hid (isDig nx = false)) (s : ByteArray) (HS : Hid (punM ys (min 4 ys.length) = s)) (s1 : (s.toList == []) = false) (s2 : s.toList.isEmpty = false)  : Calls Tryd.prog 32 #[.slice (some ⟨g, o, none⟩) n c, .int .i64 a] w (RetTok (redM ys (decide (a = 0))) w) := by
  have HM : Hid (redM ys (decide (a = 0)) = sgnM s) := Lib.hid (by
    rw [redM, HV.out, HL.out, HD.out, HQ.out]
    rw [if_neg (by decide), if_neg (by decide), if_neg (by decide)]
    rw [if_neg (by rw [HX.out, HG.out]; simp)]
    rw [HS.out, if_pos (by rw [← toList_data]; intro e; rw [e] at s2; cases s2)])
  go_enter Tryd.func32, Tryd.ntmps32
  go_wp2_with (first | (go_at_call 35; (with_reducible refine (isLet_c v hvb _).mono ?_); rintro e w1 ⟨rfl, rfl⟩; rw [HL.out]) | (go_at_call 28; (with_reducible refine (isDig_c v hvb _).mono ?_); rintro e w1 ⟨rfl, rfl⟩; rw [HD.out]) | (go_at_call 47; (with_reducible refine (isQuo_c v hvb _).mono ?_); rintro e w1 ⟨rfl, rfl⟩; rw [HQ.out]) | (go_at_call 49; (with_reducible refine (unitAt_j _ ys _ _ 1 _ _ (R.out.plus (by repeat' (first | exact Plus.refl _ | refine Plus.alloc ?_ _ | refine Plus.plus ?_ _ | refine Plus.drew ?_ | refine Plus.drewN ?_ _))) (by omega) (by omega)).mono ?_); rintro e w1 ⟨rfl, rfl⟩; rw [HX.out]) | (go_at_call 28; (with_reducible refine (isDig_c nx hxb _).mono ?_); rintro e w1 ⟨rfl, rfl⟩; rw [HG.out]) | (go_at_call 51; (with_reducible refine (pun_c _ ys _ _ _ (R.out.plus (by repeat' (first | exact Plus.refl _ | refine Plus.alloc ?_ _ | refine Plus.plus ?_ _ | refine Plus.drew ?_ | refine Plus.drewN ?_ _))) (by omega)).mono ?_); rintro e w1 ⟨rfl, ⟨x2, rfl⟩⟩; rw [HS.out]) | (go_at_call 52; (with_reducible refine (sgn_c s _).mono ?_); rintro e w1 ⟨As, cs, Am, cm, rfl, hM, ⟨x5, rfl⟩⟩; have HMM := Lib.hid hM; clear hM; unfold tkV))
  go_returns
  rw [HM.out]
  refine ⟨As, cs, Am, cm, rfl, TkM.exc (b := w.heap.size) HMM.out ?ze ?zn ?zm, ?zp⟩
  case ze => repeat' (first | exact Exc.base _ _ _ | refine Exc.alloc ?_ _ | refine Exc.plus ?_ _ | refine Exc.drew ?_ | refine Exc.drewN ?_ _)
  case zn => exact noInt_of (C := #[.int .i64 0, .string ⟨#[]⟩, .slice none 0 0, .int .i64 0, .int .i64 0, .bool false, .slice none 0 0, .int .i64 0, .bool false]) (fun i => by simp only [go_sem]) rfl
  case zm => exact noInt_of (C := #[.int .i64 0, .string ⟨#[]⟩, .slice none 0 0, .int .i64 0, .int .i64 0, .bool false, .slice none 0 0, .int .i64 0, .bool false]) (fun i => by simp only [go_sem]) rfl
  case zp => repeat' (first | exact Plus.refl _ | refine Plus.alloc ?_ _ | refine Plus.plus ?_ _ | refine Plus.drew ?_ | refine Plus.drewN ?_ _)
set_option maxRecDepth 100000 in
set_option maxHeartbeats 8000000 in
theorem red_p5 (g o : Nat) (ys : List Nat) (n c a v : Nat) (w : World) (R : Hid (Ar .u16 65536 w (some ⟨g, o + a, none⟩) ys (n - a) (c - a))) (hg : g < w.heap.size) (ha : a < n) (hcap : n ≤ c) (hn : n ≤ 140737488355) (HV : Hid (uAt ys 0 = v)) (hvb : v < 65536) (hcell : w.cell? ⟨g, o + a, none⟩ = some (.int .u16 v)) (h0l : 0 < n - a) (HL : Hid (isLet v = false)) (HD : Hid (isDig v = false)) (HQ : Hid (isQuo v = false)) (d46 : ((v : Int) == 46) = false) (s : ByteArray) (HS : Hid (punM ys (min 4 ys.length) = s)) (s1 : (s.toList == []) = false) (s2 : s.toList.isEmpty = false)  : Calls Tryd.prog 32 #[.slice (some ⟨g, o, none⟩) n c, .int .i64 a] w (RetTok (redM ys (decide (a = 0))) w) := by
  have HM : Hid (redM ys (decide (a = 0)) = sgnM s) := Lib.hid (by
    rw [redM, HV.out, HL.out, HD.out, HQ.out]
    rw [if_neg (by decide), if_neg (by decide), if_neg (by decide)]
    rw [if_neg (by simp at d46; omega)]
    rw [HS.out, if_pos (by rw [← toList_data]; intro e; rw [e] at s2; cases s2)])
  go_enter Tryd.func32, Tryd.ntmps32
  go_wp2_with (first | (go_at_call 35; (with_reducible refine (isLet_c v hvb _).mono ?_); rintro e w1 ⟨rfl, rfl⟩; rw [HL.out]) | (go_at_call 28; (with_reducible refine (isDig_c v hvb _).mono ?_); rintro e w1 ⟨rfl, rfl⟩; rw [HD.out]) | (go_at_call 47; (with_reducible refine (isQuo_c v hvb _).mono ?_); rintro e w1 ⟨rfl, rfl⟩; rw [HQ.out]) | (go_at_call 51; (with_reducible refine (pun_c _ ys _ _ _ (R.out.plus (by repeat' (first | exact Plus.refl _ | refine Plus.alloc ?_ _ | refine Plus.plus ?_ _ | refine Plus.drew ?_ | refine Plus.drewN ?_ _))) (by omega)).mono ?_); rintro e w1 ⟨rfl, ⟨x2, rfl⟩⟩; rw [HS.out]) | (go_at_call 52; (with_reducible refine (sgn_c s _).mono ?_); rintro e w1 ⟨As, cs, Am, cm, rfl, hM, ⟨x5, rfl⟩⟩; have HMM := Lib.hid hM; clear hM; unfold tkV))
  go_returns
  rw [HM.out]
  refine ⟨As, cs, Am, cm, rfl, TkM.exc (b := w.heap.size) HMM.out ?ze ?zn ?zm, ?zp⟩
  case ze => repeat' (first | exact Exc.base _ _ _ | refine Exc.alloc ?_ _ | refine Exc.plus ?_ _ | refine Exc.drew ?_ | refine Exc.drewN ?_ _)
  case zn => exact noInt_of (C := #[.int .i64 0, .string ⟨#[]⟩, .slice none 0 0, .int .i64 0, .int .i64 0, .bool false, .slice none 0 0, .int .i64 0, .bool false]) (fun i => by simp only [go_sem]) rfl
  case zm => exact noInt_of (C := #[.int .i64 0, .string ⟨#[]⟩, .slice none 0 0, .int .i64 0, .int .i64 0, .bool false, .slice none 0 0, .int .i64 0, .bool false]) (fun i => by simp only [go_sem]) rfl
  case zp => repeat' (first | exact Plus.refl _ | refine Plus.alloc ?_ _ | refine Plus.plus ?_ _ | refine Plus.drew ?_ | refine Plus.drewN ?_ _)
set_option maxRecDepth 100000 in
set_option maxHeartbeats 8000000 in
theorem red_p6 (g o : Nat) (ys : List Nat) (n c a v : Nat) (w : World) (R : Hid (Ar .u16 65536 w (some ⟨g, o + a, none⟩) ys (n - a) (c - a))) (hg : g < w.heap.size) (ha : a < n) (hcap : n ≤ c) (hn : n ≤ 140737488355) (HV : Hid (uAt ys 0 = v)) (hvb : v < 65536) (hcell : w.cell? ⟨g, o + a, none⟩ = some (.int .u16 v)) (h0l : 0 < n - a) (HL : Hid (isLet v = false)) (HD : Hid (isDig v = false)) (HQ : Hid (isQuo v = false)) (d46 : ((v : Int) == 46) = false) (s : ByteArray) (HS : Hid (punM ys (min 4 ys.length) = s)) (s0 : s = ⟨#[]⟩) (h128 : 128 ≤ v) : Calls Tryd.prog 32 #[.slice (some ⟨g, o, none⟩) n c, .int .i64 a] w (RetTok (redM ys (decide (a = 0))) w) := by
  have HM : Hid (redM ys (decide (a = 0)) = flt 6) := Lib.hid (by
    rw [redM, HV.out, HL.out, HD.out, HQ.out]
    rw [if_neg (by decide), if_neg (by decide), if_neg (by decide)]
    rw [if_neg (by simp at d46; omega)]
    rw [HS.out, s0, if_neg (by simp)]
    rw [if_pos (.inl h128)])
  subst s0
  go_enter Tryd.func32, Tryd.ntmps32
  go_wp2_with (first | (go_at_call 35; (with_reducible refine (isLet_c v hvb _).mono ?_); rintro e w1 ⟨rfl, rfl⟩; rw [HL.out]) | (go_at_call 28; (with_reducible refine (isDig_c v hvb _).mono ?_); rintro e w1 ⟨rfl, rfl⟩; rw [HD.out]) | (go_at_call 47; (with_reducible refine (isQuo_c v hvb _).mono ?_); rintro e w1 ⟨rfl, rfl⟩; rw [HQ.out]) | (go_at_call 51; (with_reducible refine (pun_c _ ys _ _ _ (R.out.plus (by repeat' (first | exact Plus.refl _ | refine Plus.alloc ?_ _ | refine Plus.plus ?_ _ | refine Plus.drew ?_ | refine Plus.drewN ?_ _))) (by omega)).mono ?_); rintro e w1 ⟨rfl, ⟨x2, rfl⟩⟩; rw [HS.out]) | (go_at_call 50; (with_reducible refine (fault_c _ _).mono ?_); rintro e w1 ⟨rfl, ⟨x3, rfl⟩⟩))
  go_returns
  rw [HM.out]
  exact RetTok.er (by repeat' (first | exact Plus.refl _ | refine Plus.alloc ?_ _ | refine Plus.plus ?_ _ | refine Plus.drew ?_ | refine Plus.drewN ?_ _))
set_option maxRecDepth 100000 in
set_option maxHeartbeats 8000000 in
theorem red_p7 (g o : Nat) (ys : List Nat) (n c a v : Nat) (w : World) (R : Hid (Ar .u16 65536 w (some ⟨g, o + a, none⟩) ys (n - a) (c - a))) (hg : g < w.heap.size) (ha : a < n) (hcap : n ≤ c) (hn : n ≤ 140737488355) (HV : Hid (uAt ys 0 = v)) (hvb : v < 65536) (hcell : w.cell? ⟨g, o + a, none⟩ = some (.int .u16 v)) (h0l : 0 < n - a) (HL : Hid (isLet v = false)) (HD : Hid (isDig v = false)) (HQ : Hid (isQuo v = false)) (d46 : ((v : Int) == 46) = false) (s : ByteArray) (HS : Hid (punM ys (min 4 ys.length) = s)) (s0 : s = ⟨#[]⟩) (h128 : v < 128) (d96 : ((v : Int) == 96) = true) : Calls Tryd.prog 32 #[.slice (some ⟨g, o, none⟩) n c, .int .i64 a] w (RetTok (redM ys (decide (a = 0))) w) := by
  have HM : Hid (redM ys (decide (a = 0)) = flt 6) := Lib.hid (by
    rw [redM, HV.out, HL.out, HD.out, HQ.out]
    rw [if_neg (by decide), if_neg (by decide), if_neg (by decide)]
    rw [if_neg (by simp at d46; omega)]
    rw [HS.out, s0, if_neg (by simp)]
    rw [if_pos (.inr (.inl (by simp at d96; omega)))])
  subst s0
  go_enter Tryd.func32, Tryd.ntmps32
  go_wp2_with (first | (go_at_call 35; (with_reducible refine (isLet_c v hvb _).mono ?_); rintro e w1 ⟨rfl, rfl⟩; rw [HL.out]) | (go_at_call 28; (with_reducible refine (isDig_c v hvb _).mono ?_); rintro e w1 ⟨rfl, rfl⟩; rw [HD.out]) | (go_at_call 47; (with_reducible refine (isQuo_c v hvb _).mono ?_); rintro e w1 ⟨rfl, rfl⟩; rw [HQ.out]) | (go_at_call 51; (with_reducible refine (pun_c _ ys _ _ _ (R.out.plus (by repeat' (first | exact Plus.refl _ | refine Plus.alloc ?_ _ | refine Plus.plus ?_ _ | refine Plus.drew ?_ | refine Plus.drewN ?_ _))) (by omega)).mono ?_); rintro e w1 ⟨rfl, ⟨x2, rfl⟩⟩; rw [HS.out]) | (go_at_call 50; (with_reducible refine (fault_c _ _).mono ?_); rintro e w1 ⟨rfl, ⟨x3, rfl⟩⟩))
  go_returns
  rw [HM.out]
  exact RetTok.er (by repeat' (first | exact Plus.refl _ | refine Plus.alloc ?_ _ | refine Plus.plus ?_ _ | refine Plus.drew ?_ | refine Plus.drewN ?_ _))
set_option maxRecDepth 100000 in
set_option maxHeartbeats 8000000 in
theorem red_p8 (g o : Nat) (ys : List Nat) (n c a v : Nat) (w : World) (R : Hid (Ar .u16 65536 w (some ⟨g, o + a, none⟩) ys (n - a) (c - a))) (hg : g < w.heap.size) (ha : a < n) (hcap : n ≤ c) (hn : n ≤ 140737488355) (HV : Hid (uAt ys 0 = v)) (hvb : v < 65536) (hcell : w.cell? ⟨g, o + a, none⟩ = some (.int .u16 v)) (h0l : 0 < n - a) (HL : Hid (isLet v = false)) (HD : Hid (isDig v = false)) (HQ : Hid (isQuo v = false)) (d46 : ((v : Int) == 46) = false) (s : ByteArray) (HS : Hid (punM ys (min 4 ys.length) = s)) (s0 : s = ⟨#[]⟩) (h128 : v < 128) (d96 : ((v : Int) == 96) = false) (d92 : ((v : Int) == 92) = true) : Calls Tryd.prog 32 #[.slice (some ⟨g, o, none⟩) n c, .int .i64 a] w (RetTok (redM ys (decide (a = 0))) w) := by
  have HM : Hid (redM ys (decide (a = 0)) = flt 6) := Lib.hid (by
    rw [redM, HV.out, HL.out, HD.out, HQ.out]
    rw [if_neg (by decide), if_neg (by decide), if_neg (by decide)]
    rw [if_neg (by simp at d46; omega)]
    rw [HS.out, s0, if_neg (by simp)]
    rw [if_pos (.inr (.inr (.inl (by simp at d92; omega))))])
  subst s0
  go_enter Tryd.func32, Tryd.ntmps32
  go_wp2_with (first | (go_at_call 35; (with_reducible refine (isLet_c v hvb _).mono ?_); rintro e w1 ⟨rfl, rfl⟩; rw [HL.out]) | (go_at_call 28; (with_reducible refine (isDig_c v hvb _).mono ?_); rintro e w1 ⟨rfl, rfl⟩; rw [HD.out]) | (go_at_call 47; (with_reducible refine (isQuo_c v hvb _).mono ?_); rintro e w1 ⟨rfl, rfl⟩; rw [HQ.out]) | (go_at_call 51; (with_reducible refine (pun_c _ ys _ _ _ (R.out.plus (by repeat' (first | exact Plus.refl _ | refine Plus.alloc ?_ _ | refine Plus.plus ?_ _ | refine Plus.drew ?_ | refine Plus.drewN ?_ _))) (by omega)).mono ?_); rintro e w1 ⟨rfl, ⟨x2, rfl⟩⟩; rw [HS.out]) | (go_at_call 50; (with_reducible refine (fault_c _ _).mono ?_); rintro e w1 ⟨rfl, ⟨x3, rfl⟩⟩))
  go_returns
  rw [HM.out]
  exact RetTok.er (by repeat' (first | exact Plus.refl _ | refine Plus.alloc ?_ _ | refine Plus.plus ?_ _ | refine Plus.drew ?_ | refine Plus.drewN ?_ _))
set_option maxRecDepth 100000 in
set_option maxHeartbeats 8000000 in
theorem red_p9 (g o : Nat) (ys : List Nat) (n c v : Nat) (w : World) (R : Hid (Ar .u16 65536 w (some ⟨g, o, none⟩) ys n c)) (hg : g < w.heap.size) (hcap : n ≤ c) (hn : n ≤ 140737488355) (HV : Hid (uAt ys 0 = v)) (hvb : v < 65536) (hcell : w.cell? ⟨g, o, none⟩ = some (.int .u16 v)) (h0l : 0 < n) (HL : Hid (isLet v = false)) (HD : Hid (isDig v = false)) (HQ : Hid (isQuo v = false)) (d46 : ((v : Int) == 46) = false) (s : ByteArray) (HS : Hid (punM ys (min 4 ys.length) = s)) (s0 : s = ⟨#[]⟩) (h128 : v < 128) (d96 : ((v : Int) == 96) = false) (d92 : ((v : Int) == 92) = false) (HB : Hid (begB ys (nats ⟨#[35, 33]⟩) = true)) : Calls Tryd.prog 32 #[.slice (some ⟨g, o, none⟩) n c, .int .i64 0] w (RetTok (redM ys true) w) := by
  have HM : Hid (redM ys true = flt 6) := Lib.hid (by
    have hb : begB ys [35, 33] = true := by have q := HB.out; rw [nats_lit] at q; exact q
    rw [redM, HV.out, HL.out, HD.out, HQ.out]
    rw [if_neg (by decide), if_neg (by decide), if_neg (by decide)]
    rw [if_neg (by simp at d46; omega)]
    rw [HS.out, s0, if_neg (by simp)]
    rw [if_pos (.inr (.inr (.inr ⟨rfl, hb⟩)))])
  subst s0
  go_enter Tryd.func32, Tryd.ntmps32
  go_wp2_with (first | (go_at_call 35; (with_reducible refine (isLet_c v hvb _).mono ?_); rintro e w1 ⟨rfl, rfl⟩; rw [HL.out]) | (go_at_call 28; (with_reducible refine (isDig_c v hvb _).mono ?_); rintro e w1 ⟨rfl, rfl⟩; rw [HD.out]) | (go_at_call 47; (with_reducible refine (isQuo_c v hvb _).mono ?_); rintro e w1 ⟨rfl, rfl⟩; rw [HQ.out]) | (go_at_call 51; (with_reducible refine (pun_c _ ys _ _ _ (R.out.plus (by repeat' (first | exact Plus.refl _ | refine Plus.alloc ?_ _ | refine Plus.plus ?_ _ | refine Plus.drew ?_ | refine Plus.drewN ?_ _))) (by omega)).mono ?_); rintro e w1 ⟨rfl, ⟨x2, rfl⟩⟩; rw [HS.out]) | (go_at_call 40; (with_reducible refine (begins_c _ ys _ _ ⟨#[35, 33]⟩ _ (R.out.plus (by repeat' (first | exact Plus.refl _ | refine Plus.alloc ?_ _ | refine Plus.plus ?_ _ | refine Plus.drew ?_ | refine Plus.drewN ?_ _))) (by decide)).mono ?_); rintro e w1 ⟨rfl, ⟨x4, rfl⟩⟩; rw [HB.out]) | (go_at_call 50; (with_reducible refine (fault_c _ _).mono ?_); rintro e w1 ⟨rfl, ⟨x3, rfl⟩⟩))
  go_returns
  rw [HM.out]
  exact RetTok.er (by repeat' (first | exact Plus.refl _ | refine Plus.alloc ?_ _ | refine Plus.plus ?_ _ | refine Plus.drew ?_ | refine Plus.drewN ?_ _))
set_option maxRecDepth 100000 in
set_option maxHeartbeats 8000000 in
theorem red_p10 (g o : Nat) (ys : List Nat) (n c v : Nat) (w : World) (R : Hid (Ar .u16 65536 w (some ⟨g, o, none⟩) ys n c)) (hg : g < w.heap.size) (hcap : n ≤ c) (hn : n ≤ 140737488355) (HV : Hid (uAt ys 0 = v)) (hvb : v < 65536) (hcell : w.cell? ⟨g, o, none⟩ = some (.int .u16 v)) (h0l : 0 < n) (HL : Hid (isLet v = false)) (HD : Hid (isDig v = false)) (HQ : Hid (isQuo v = false)) (d46 : ((v : Int) == 46) = false) (s : ByteArray) (HS : Hid (punM ys (min 4 ys.length) = s)) (s0 : s = ⟨#[]⟩) (h128 : v < 128) (d96 : ((v : Int) == 96) = false) (d92 : ((v : Int) == 92) = false) (HB : Hid (begB ys (nats ⟨#[35, 33]⟩) = false)) : Calls Tryd.prog 32 #[.slice (some ⟨g, o, none⟩) n c, .int .i64 0] w (RetTok (redM ys true) w) := by
  have HM : Hid (redM ys true = flt 5) := Lib.hid (by
    have hb : begB ys [35, 33] = false := by have q := HB.out; rw [nats_lit] at q; exact q
    rw [redM, HV.out, HL.out, HD.out, HQ.out]
    rw [if_neg (by decide), if_neg (by decide), if_neg (by decide)]
    rw [if_neg (by simp at d46; omega)]
    rw [HS.out, s0, if_neg (by simp)]
    rw [if_neg]
    simp [hb]
    simp at d96 d92
    omega)
  subst s0
  go_enter Tryd.func32, Tryd.ntmps32
  go_wp2_with (first | (go_at_call 35; (with_reducible refine (isLet_c v hvb _).mono ?_); rintro e w1 ⟨rfl, rfl⟩; rw [HL.out]) | (go_at_call 28; (with_reducible refine (isDig_c v hvb _).mono ?_); rintro e w1 ⟨rfl, rfl⟩; rw [HD.out]) | (go_at_call 47; (with_reducible refine (isQuo_c v hvb _).mono ?_); rintro e w1 ⟨rfl, rfl⟩; rw [HQ.out]) | (go_at_call 51; (with_reducible refine (pun_c _ ys _ _ _ (R.out.plus (by repeat' (first | exact Plus.refl _ | refine Plus.alloc ?_ _ | refine Plus.plus ?_ _ | refine Plus.drew ?_ | refine Plus.drewN ?_ _))) (by omega)).mono ?_); rintro e w1 ⟨rfl, ⟨x2, rfl⟩⟩; rw [HS.out]) | (go_at_call 40; (with_reducible refine (begins_c _ ys _ _ ⟨#[35, 33]⟩ _ (R.out.plus (by repeat' (first | exact Plus.refl _ | refine Plus.alloc ?_ _ | refine Plus.plus ?_ _ | refine Plus.drew ?_ | refine Plus.drewN ?_ _))) (by decide)).mono ?_); rintro e w1 ⟨rfl, ⟨x4, rfl⟩⟩; rw [HB.out]) | (go_at_call 50; (with_reducible refine (fault_c _ _).mono ?_); rintro e w1 ⟨rfl, ⟨x3, rfl⟩⟩))
  go_returns
  rw [HM.out]
  exact RetTok.er (by repeat' (first | exact Plus.refl _ | refine Plus.alloc ?_ _ | refine Plus.plus ?_ _ | refine Plus.drew ?_ | refine Plus.drewN ?_ _))
set_option maxRecDepth 100000 in
set_option maxHeartbeats 8000000 in
theorem red_p11 (g o : Nat) (ys : List Nat) (n c a v : Nat) (w : World) (R : Hid (Ar .u16 65536 w (some ⟨g, o + a, none⟩) ys (n - a) (c - a))) (hg : g < w.heap.size) (ha : a < n) (hcap : n ≤ c) (hn : n ≤ 140737488355) (HV : Hid (uAt ys 0 = v)) (hvb : v < 65536) (hcell : w.cell? ⟨g, o + a, none⟩ = some (.int .u16 v)) (h0l : 0 < n - a) (HL : Hid (isLet v = false)) (HD : Hid (isDig v = false)) (HQ : Hid (isQuo v = false)) (d46 : ((v : Int) == 46) = false) (s : ByteArray) (HS : Hid (punM ys (min 4 ys.length) = s)) (s0 : s = ⟨#[]⟩) (h128 : v < 128) (d96 : ((v : Int) == 96) = false) (d92 : ((v : Int) == 92) = false) (a0 : ((a : Int) == 0) = false) : Calls Tryd.prog 32 #[.slice (some ⟨g, o, none⟩) n c, .int .i64 a] w (RetTok (redM ys (decide (a = 0))) w) := by
  have HM : Hid (redM ys (decide (a = 0)) = flt 5) := Lib.hid (by
    have a1 : decide (a = 0) = false := by simp at a0 ⊢; omega
    rw [redM, HV.out, HL.out, HD.out, HQ.out]
    rw [if_neg (by decide), if_neg (by decide), if_neg (by decide)]
    rw [if_neg (by simp at d46; omega)]
    rw [HS.out, s0, if_neg (by simp)]
    rw [if_neg]
    simp [a1]
    simp at d96 d92
    omega)
  subst s0
  go_enter Tryd.func32, Tryd.ntmps32
  go_wp2_with (first | (go_at_call 35; (with_reducible refine (isLet_c v hvb _).mono ?_); rintro e w1 ⟨rfl, rfl⟩; rw [HL.out]) | (go_at_call 28; (with_reducible refine (isDig_c v hvb _).mono ?_); rintro e w1 ⟨rfl, rfl⟩; rw [HD.out]) | (go_at_call 47; (with_reducible refine (isQuo_c v hvb _).mono ?_); rintro e w1 ⟨rfl, rfl⟩; rw [HQ.out]) | (go_at_call 51; (with_reducible refine (pun_c _ ys _ _ _ (R.out.plus (by repeat' (first | exact Plus.refl _ | refine Plus.alloc ?_ _ | refine Plus.plus ?_ _ | refine Plus.drew ?_ | refine Plus.drewN ?_ _))) (by omega)).mono ?_); rintro e w1 ⟨rfl, ⟨x2, rfl⟩⟩; rw [HS.out]) | (go_at_call 50; (with_reducible refine (fault_c _ _).mono ?_); rintro e w1 ⟨rfl, ⟨x3, rfl⟩⟩))
  go_returns
  rw [HM.out]
  exact RetTok.er (by repeat' (first | exact Plus.refl _ | refine Plus.alloc ?_ _ | refine Plus.plus ?_ _ | refine Plus.drew ?_ | refine Plus.drewN ?_ _))
end Go.Proofs.YtaigkjffglbknaaDoor
