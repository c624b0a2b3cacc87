/- The walk of LexDigits. -/
import Derived.Deep.QuietTactic
import Derived.BigQuiet
import Derived.IntWalk
import Derived.Test.YtaigkjffglbknaaDoorD1
namespace Go.Proofs.YtaigkjffglbknaaDoor
open Go.RowKit

set_option maxRecDepth 100000 in
set_option maxHeartbeats 16000000 in
theorem digits_p (n : Int) (w : World) (HL : Hid (Lai w)) (S : ByteArray) (hS : S.size ≤ 40) (HD : Hid (∀ w, Calls Tryd.prog 24 #[.int .i64 n] w fun e w' => e = .returned (.string S) ∧ Plus w w')) (h0 : decide (n < 0) = false) (h1 : decide (n ≤ 9007199254740991) = true) (E1 E2 : Tk) (T1 : Hid (tokM (nats S) = ⟨[{ tk0 with k := 2, nk := 0, n := n }, E1], 0, 0⟩)) (T2 : Hid (tokM (nats (S ++ ⟨#[110]⟩)) = ⟨[{ tk0 with k := 3, b := n }, E2], 0, 0⟩)) (T3 : Hid (tokM (nats (⟨#[48]⟩ ++ S)) = ⟨[], 0, 5⟩)) :
    Calls Tryd.prog 8 #[.int .i64 n] w fun e w' => e = .returned (.bool true) ∧ Plus w w' := by
  have hS2 : (S ++ ⟨#[110]⟩).size ≤ 41 := by rw [ByteArray.size_append]; show S.size + 1 ≤ 41; omega
  have hS3 : (⟨#[48]⟩ ++ S).size ≤ 41 := by rw [ByteArray.size_append]; show 1 + S.size ≤ 41; omega
  have HS2 := Lib.hid hS2
  have HS3 := Lib.hid hS3
  clear hS2 hS3
  go_enter Tryd.func8, Tryd.ntmps8
  go_wp2_with (first | (go_at_call 11; (with_reducible refine (first_c _ (Lib.hid (HL.out.plus (by repeat' (first | exact Plus.refl _ | refine Plus.alloc ?_ _ | refine Plus.plus ?_ _ | refine Plus.drew ?_ | refine Plus.drewN ?_ _))))).mono ?_); rintro e w1 ⟨rfl, ⟨y0, rfl⟩⟩) | (go_at_call 24; (with_reducible refine (HD.out _).mono ?_); rintro e w1 ⟨rfl, ⟨yd, rfl⟩⟩))
  with_reducible refine (ascii_c _ ?z1 _).mono ?_
  case z1 => exact (by omega)
  rintro e w1 ⟨A1, c1, rfl, q1, q2, q3, ⟨x1, rfl⟩⟩
  have N1 := Lib.hid (nats_new q1 q2 q3)
  clear q1 q2 q3
  go_wp2_with fail
  refine (tokR_c _ (nats S) _ _ _ N1.out (by rw [nats_len]; omega) (HL.out.plus (by repeat' (first | exact Plus.refl _ | refine Plus.alloc ?_ _ | refine Plus.plus ?_ _ | refine Plus.drew ?_ | refine Plus.drewN ?_ _)))).mono ?_
  rintro e w1 ⟨B1, d1, rs1, rfl, m1, k1, j1, R1, t1, ⟨y1, rfl⟩⟩
  rw [T1.out] at m1 ⊢
  dsimp only at m1 ⊢
  have M1 := Lib.hid m1
  have RR1 := Lib.hid R1
  clear m1 R1 t1
  go_wp2_with fail
  with_reducible refine (ascii_c _ ?z2 _).mono ?_
  case z2 => exact Nat.le_trans HS2.out (by decide)
  rintro e w1 ⟨A2, c2, rfl, q1, q2, q3, ⟨x2, rfl⟩⟩
  have N2 := Lib.hid (nats_new q1 q2 q3)
  clear q1 q2 q3
  go_wp2_with fail
  refine (tokR_c _ (nats (S ++ ⟨#[110]⟩)) _ _ _ N2.out (by rw [nats_len]; exact Nat.le_trans HS2.out (by decide)) (HL.out.plus (by repeat' (first | exact Plus.refl _ | refine Plus.alloc ?_ _ | refine Plus.plus ?_ _ | refine Plus.drew ?_ | refine Plus.drewN ?_ _)))).mono ?_
  rintro e w1 ⟨B2, d2, rs2, rfl, m2, k2, j2, R2, t2, ⟨y2, rfl⟩⟩
  rw [T2.out] at m2 ⊢
  dsimp only at m2 ⊢
  have M2 := Lib.hid m2
  have RR2 := Lib.hid R2
  clear m2 R2 t2
  go_wp2_with fail
  with_reducible refine (ascii_c _ ?z3 _).mono ?_
  case z3 => exact Nat.le_trans HS3.out (by decide)
  rintro e w1 ⟨A3, c3, rfl, q1, q2, q3, ⟨x3, rfl⟩⟩
  have N3 := Lib.hid (nats_new q1 q2 q3)
  clear q1 q2 q3
  go_wp2_with fail
  refine (tokR_c _ (nats (⟨#[48]⟩ ++ S)) _ _ _ N3.out (by rw [nats_len]; exact Nat.le_trans HS3.out (by decide)) (HL.out.plus (by repeat' (first | exact Plus.refl _ | refine Plus.alloc ?_ _ | refine Plus.plus ?_ _ | refine Plus.drew ?_ | refine Plus.drewN ?_ _)))).mono ?_
  rintro e w1 ⟨B3, d3, rs3, rfl, m3, k3, j3, R3, t3, ⟨y3, rfl⟩⟩
  rw [T3.out] at m3 ⊢
  dsimp only at m3 ⊢
  have M3 := Lib.hid m3
  have RR3 := Lib.hid R3
  clear m3 R3 t3
  have l1 : rs1.length = 2 := len_of M1.out
  obtain ⟨g1, eB1, hg1, hc1⟩ := RR1.out.plus (show Plus _ (plus (plus (plus (plus (plus (plus (plus (plus w y0) yd) x1) y1) x2) y2) x3) y3) from (by repeat' (first | exact Plus.refl _ | refine Plus.alloc ?_ _ | refine Plus.plus ?_ _ | refine Plus.drew ?_ | refine Plus.drewN ?_ _))) (by omega)
  subst eB1
  have hr1 : (rs1[0]'(by omega)).t = { tk0 with k := 2, nk := 0, n := n } := el_of M1.out (by omega) rfl
  obtain ⟨r1, h1⟩ : ∃ r0, rs1[0]'(by omega) = r0 := ⟨_, rfl⟩
  rw [h1] at hr1
  obtain ⟨tt1, As1, cs1, Am1, cm1⟩ := r1
  dsimp only at hr1
  subst hr1
  have p10 := row_cell hc1 (i := 0) (j := 0) (by omega) (by decide)
  have p14 := row_cell hc1 (i := 0) (j := 4) (by omega) (by decide)
  rw [h1] at p10 p14
  replace p10 : _ = some (Value.int .i64 2) := p10
  replace p14 : _ = some (Value.int .i64 n) := p14
  simp only [Nat.reduceMul, Nat.reduceAdd] at p10 p14
  clear hc1 h1
  have I1 : Old g1 (plus (plus (plus (plus (plus (plus (plus (plus w y0) yd) x1) y1) x2) y2) x3) y3) := ⟨hg1⟩
  have l2 : rs2.length = 2 := len_of M2.out
  obtain ⟨g2, eB2, hg2, hc2⟩ := RR2.out.plus (show Plus _ (plus (plus (plus (plus (plus (plus (plus (plus w y0) yd) x1) y1) x2) y2) x3) y3) from (by repeat' (first | exact Plus.refl _ | refine Plus.alloc ?_ _ | refine Plus.plus ?_ _ | refine Plus.drew ?_ | refine Plus.drewN ?_ _))) (by omega)
  subst eB2
  have hr2 : (rs2[0]'(by omega)).t = { tk0 with k := 3, b := n } := el_of M2.out (by omega) rfl
  obtain ⟨r2, h2⟩ : ∃ r0, rs2[0]'(by omega) = r0 := ⟨_, rfl⟩
  rw [h2] at hr2
  obtain ⟨tt2, As2, cs2, Am2, cm2⟩ := r2
  dsimp only at hr2
  subst hr2
  have p20 := row_cell hc2 (i := 0) (j := 0) (by omega) (by decide)
  rw [h2] at p20
  replace p20 : _ = some (Value.int .i64 3) := p20
  simp only [Nat.reduceMul, Nat.reduceAdd] at p20
  clear hc2 h2
  have I2 : Old g2 (plus (plus (plus (plus (plus (plus (plus (plus w y0) yd) x1) y1) x2) y2) x3) y3) := ⟨hg2⟩
  rw [l1, l2]
  go_wp2_with (first | (go_at_call 11; (with_reducible refine (first_c _ (Lib.hid (HL.out.plus (by repeat' (first | exact Plus.refl _ | refine Plus.alloc ?_ _ | refine Plus.plus ?_ _ | refine Plus.drew ?_ | refine Plus.drewN ?_ _))))).mono ?_); rintro e w1 ⟨rfl, ⟨y5, rfl⟩⟩))
  go_ret
  exact ⟨rfl, (by repeat' (first | exact Plus.refl _ | refine Plus.alloc ?_ _ | refine Plus.plus ?_ _ | refine Plus.drew ?_ | refine Plus.drewN ?_ _))⟩
set_option maxRecDepth 100000 in
set_option maxHeartbeats 16000000 in
theorem digits_l (n : Int) (w : World) (HL : Hid (Lai w)) (S : ByteArray) (hS : S.size ≤ 40) (HD : Hid (∀ w, Calls Tryd.prog 24 #[.int .i64 n] w fun e w' => e = .returned (.string S) ∧ Plus w w')) (h0 : decide (n < 0) = false) (h1 : decide (n ≤ 9007199254740991) = false) (E2 : Tk) (T1 : Hid (tokM (nats S) = ⟨[], 0, 6⟩)) (T2 : Hid (tokM (nats (S ++ ⟨#[110]⟩)) = ⟨[{ tk0 with k := 3, b := n }, E2], 0, 0⟩)) (T3 : Hid (tokM (nats (⟨#[48]⟩ ++ S)) = ⟨[], 0, 5⟩)) :
    Calls Tryd.prog 8 #[.int .i64 n] w fun e w' => e = .returned (.bool true) ∧ Plus w w' := by
  have hS2 : (S ++ ⟨#[110]⟩).size ≤ 41 := by rw [ByteArray.size_append]; show S.size + 1 ≤ 41; omega
  have hS3 : (⟨#[48]⟩ ++ S).size ≤ 41 := by rw [ByteArray.size_append]; show 1 + S.size ≤ 41; omega
  have HS2 := Lib.hid hS2
  have HS3 := Lib.hid hS3
  clear hS2 hS3
  go_enter Tryd.func8, Tryd.ntmps8
  go_wp2_with (first | (go_at_call 11; (with_reducible refine (first_c _ (Lib.hid (HL.out.plus (by repeat' (first | exact Plus.refl _ | refine Plus.alloc ?_ _ | refine Plus.plus ?_ _ | refine Plus.drew ?_ | refine Plus.drewN ?_ _))))).mono ?_); rintro e w1 ⟨rfl, ⟨y0, rfl⟩⟩) | (go_at_call 24; (with_reducible refine (HD.out _).mono ?_); rintro e w1 ⟨rfl, ⟨yd, rfl⟩⟩))
  with_reducible refine (ascii_c _ ?z1 _).mono ?_
  case z1 => exact (by omega)
  rintro e w1 ⟨A1, c1, rfl, q1, q2, q3, ⟨x1, rfl⟩⟩
  have N1 := Lib.hid (nats_new q1 q2 q3)
  clear q1 q2 q3
  go_wp2_with fail
  refine (tokR_c _ (nats S) _ _ _ N1.out (by rw [nats_len]; omega) (HL.out.plus (by repeat' (first | exact Plus.refl _ | refine Plus.alloc ?_ _ | refine Plus.plus ?_ _ | refine Plus.drew ?_ | refine Plus.drewN ?_ _)))).mono ?_
  rintro e w1 ⟨B1, d1, rs1, rfl, m1, k1, j1, R1, t1, ⟨y1, rfl⟩⟩
  rw [T1.out] at m1 ⊢
  dsimp only at m1 ⊢
  have M1 := Lib.hid m1
  have RR1 := Lib.hid R1
  clear m1 R1 t1
  go_wp2_with fail
  with_reducible refine (ascii_c _ ?z2 _).mono ?_
  case z2 => exact Nat.le_trans HS2.out (by decide)
  rintro e w1 ⟨A2, c2, rfl, q1, q2, q3, ⟨x2, rfl⟩⟩
  have N2 := Lib.hid (nats_new q1 q2 q3)
  clear q1 q2 q3
  go_wp2_with fail
  refine (tokR_c _ (nats (S ++ ⟨#[110]⟩)) _ _ _ N2.out (by rw [nats_len]; exact Nat.le_trans HS2.out (by decide)) (HL.out.plus (by repeat' (first | exact Plus.refl _ | refine Plus.alloc ?_ _ | refine Plus.plus ?_ _ | refine Plus.drew ?_ | refine Plus.drewN ?_ _)))).mono ?_
  rintro e w1 ⟨B2, d2, rs2, rfl, m2, k2, j2, R2, t2, ⟨y2, rfl⟩⟩
  rw [T2.out] at m2 ⊢
  dsimp only at m2 ⊢
  have M2 := Lib.hid m2
  have RR2 := Lib.hid R2
  clear m2 R2 t2
  go_wp2_with fail
  with_reducible refine (ascii_c _ ?z3 _).mono ?_
  case z3 => exact Nat.le_trans HS3.out (by decide)
  rintro e w1 ⟨A3, c3, rfl, q1, q2, q3, ⟨x3, rfl⟩⟩
  have N3 := Lib.hid (nats_new q1 q2 q3)
  clear q1 q2 q3
  go_wp2_with fail
  refine (tokR_c _ (nats (⟨#[48]⟩ ++ S)) _ _ _ N3.out (by rw [nats_len]; exact Nat.le_trans HS3.out (by decide)) (HL.out.plus (by repeat' (first | exact Plus.refl _ | refine Plus.alloc ?_ _ | refine Plus.plus ?_ _ | refine Plus.drew ?_ | refine Plus.drewN ?_ _)))).mono ?_
  rintro e w1 ⟨B3, d3, rs3, rfl, m3, k3, j3, R3, t3, ⟨y3, rfl⟩⟩
  rw [T3.out] at m3 ⊢
  dsimp only at m3 ⊢
  have M3 := Lib.hid m3
  have RR3 := Lib.hid R3
  clear m3 R3 t3
  have l2 : rs2.length = 2 := len_of M2.out
  obtain ⟨g2, eB2, hg2, hc2⟩ := RR2.out.plus (show Plus _ (plus (plus (plus (plus (plus (plus (plus (plus w y0) yd) x1) y1) x2) y2) x3) y3) from (by repeat' (first | exact Plus.refl _ | refine Plus.alloc ?_ _ | refine Plus.plus ?_ _ | refine Plus.drew ?_ | refine Plus.drewN ?_ _))) (by omega)
  subst eB2
  have hr2 : (rs2[0]'(by omega)).t = { tk0 with k := 3, b := n } := el_of M2.out (by omega) rfl
  obtain ⟨r2, h2⟩ : ∃ r0, rs2[0]'(by omega) = r0 := ⟨_, rfl⟩
  rw [h2] at hr2
  obtain ⟨tt2, As2, cs2, Am2, cm2⟩ := r2
  dsimp only at hr2
  subst hr2
  have p20 := row_cell hc2 (i := 0) (j := 0) (by omega) (by decide)
  rw [h2] at p20
  replace p20 : _ = some (Value.int .i64 3) := p20
  simp only [Nat.reduceMul, Nat.reduceAdd] at p20
  clear hc2 h2
  have I2 : Old g2 (plus (plus (plus (plus (plus (plus (plus (plus w y0) yd) x1) y1) x2) y2) x3) y3) := ⟨hg2⟩
  rw [l2]
  go_wp2_with (first | (go_at_call 11; (with_reducible refine (first_c _ (Lib.hid (HL.out.plus (by repeat' (first | exact Plus.refl _ | refine Plus.alloc ?_ _ | refine Plus.plus ?_ _ | refine Plus.drew ?_ | refine Plus.drewN ?_ _))))).mono ?_); rintro e w1 ⟨rfl, ⟨y5, rfl⟩⟩))
  go_ret
  exact ⟨rfl, (by repeat' (first | exact Plus.refl _ | refine Plus.alloc ?_ _ | refine Plus.plus ?_ _ | refine Plus.drew ?_ | refine Plus.drewN ?_ _))⟩
set_option maxRecDepth 100000 in
set_option maxHeartbeats 16000000 in
theorem digits_e (n : Int) (w : World) (HL : Hid (Lai w)) (S : ByteArray) (hS : S.size ≤ 40) (HD : Hid (∀ w, Calls Tryd.prog 24 #[.int .i64 n] w fun e w' => e = .returned (.string S) ∧ Plus w w')) (h0 : decide (n < 0) = true) (h1 : decide (n < -9007199254740991) = true) (L : List Tk) (a er : Nat) (ze : Int) (He : Hid ((er : Int) = ze)) (he : (ze != 0) = true) (T1 : Hid (tokM (nats S) = ⟨L, a, er⟩)) :
    Calls Tryd.prog 8 #[.int .i64 n] w fun e w' => e = .returned (.bool true) ∧ Plus w w' := by
  have hS2 : (S ++ ⟨#[110]⟩).size ≤ 41 := by rw [ByteArray.size_append]; show S.size + 1 ≤ 41; omega
  have hS3 : (⟨#[48]⟩ ++ S).size ≤ 41 := by rw [ByteArray.size_append]; show 1 + S.size ≤ 41; omega
  have HS2 := Lib.hid hS2
  have HS3 := Lib.hid hS3
  clear hS2 hS3
  go_enter Tryd.func8, Tryd.ntmps8
  go_wp2_with (first | (go_at_call 11; (with_reducible refine (first_c _ (Lib.hid (HL.out.plus (by repeat' (first | exact Plus.refl _ | refine Plus.alloc ?_ _ | refine Plus.plus ?_ _ | refine Plus.drew ?_ | refine Plus.drewN ?_ _))))).mono ?_); rintro e w1 ⟨rfl, ⟨y0, rfl⟩⟩) | (go_at_call 24; (with_reducible refine (HD.out _).mono ?_); rintro e w1 ⟨rfl, ⟨yd, rfl⟩⟩))
  with_reducible refine (ascii_c _ ?z1 _).mono ?_
  case z1 => exact (by omega)
  rintro e w1 ⟨A1, c1, rfl, q1, q2, q3, ⟨x1, rfl⟩⟩
  have N1 := Lib.hid (nats_new q1 q2 q3)
  clear q1 q2 q3
  go_wp2_with fail
  refine (tokR_c _ (nats S) _ _ _ N1.out (by rw [nats_len]; omega) (HL.out.plus (by repeat' (first | exact Plus.refl _ | refine Plus.alloc ?_ _ | refine Plus.plus ?_ _ | refine Plus.drew ?_ | refine Plus.drewN ?_ _)))).mono ?_
  rintro e w1 ⟨B1, d1, rs1, rfl, m1, k1, j1, R1, t1, ⟨y1, rfl⟩⟩
  rw [T1.out] at m1 ⊢
  dsimp only at m1 ⊢
  have M1 := Lib.hid m1
  have RR1 := Lib.hid R1
  clear m1 R1 t1
  go_wp2_with fail
  with_reducible refine (ascii_c _ ?z2 _).mono ?_
  case z2 => exact Nat.le_trans HS2.out (by decide)
  rintro e w1 ⟨A2, c2, rfl, q1, q2, q3, ⟨x2, rfl⟩⟩
  have N2 := Lib.hid (nats_new q1 q2 q3)
  clear q1 q2 q3
  go_wp2_with fail
  refine (tokR_c _ (nats (S ++ ⟨#[110]⟩)) _ _ _ N2.out (by rw [nats_len]; exact Nat.le_trans HS2.out (by decide)) (HL.out.plus (by repeat' (first | exact Plus.refl _ | refine Plus.alloc ?_ _ | refine Plus.plus ?_ _ | refine Plus.drew ?_ | refine Plus.drewN ?_ _)))).mono ?_
  rintro e w1 ⟨B2, d2, rs2, rfl, m2, k2, j2, R2, t2, ⟨y2, rfl⟩⟩
  have M2 := Lib.hid m2
  have RR2 := Lib.hid R2
  clear m2 R2 t2
  go_wp2_with fail
  with_reducible refine (ascii_c _ ?z3 _).mono ?_
  case z3 => exact Nat.le_trans HS3.out (by decide)
  rintro e w1 ⟨A3, c3, rfl, q1, q2, q3, ⟨x3, rfl⟩⟩
  have N3 := Lib.hid (nats_new q1 q2 q3)
  clear q1 q2 q3
  go_wp2_with fail
  refine (tokR_c _ (nats (⟨#[48]⟩ ++ S)) _ _ _ N3.out (by rw [nats_len]; exact Nat.le_trans HS3.out (by decide)) (HL.out.plus (by repeat' (first | exact Plus.refl _ | refine Plus.alloc ?_ _ | refine Plus.plus ?_ _ | refine Plus.drew ?_ | refine Plus.drewN ?_ _)))).mono ?_
  rintro e w1 ⟨B3, d3, rs3, rfl, m3, k3, j3, R3, t3, ⟨y3, rfl⟩⟩
  have M3 := Lib.hid m3
  have RR3 := Lib.hid R3
  clear m3 R3 t3
  rw [He.out]
  go_wp2_with (first | (go_at_call 11; (with_reducible refine (first_c _ (Lib.hid (HL.out.plus (by repeat' (first | exact Plus.refl _ | refine Plus.alloc ?_ _ | refine Plus.plus ?_ _ | refine Plus.drew ?_ | refine Plus.drewN ?_ _))))).mono ?_); rintro e w1 ⟨rfl, ⟨y5, rfl⟩⟩))
  go_ret
  exact ⟨rfl, (by repeat' (first | exact Plus.refl _ | refine Plus.alloc ?_ _ | refine Plus.plus ?_ _ | refine Plus.drew ?_ | refine Plus.drewN ?_ _))⟩
set_option maxRecDepth 100000 in
set_option maxHeartbeats 16000000 in
theorem digits_k (n : Int) (w : World) (HL : Hid (Lai w)) (S : ByteArray) (hS : S.size ≤ 40) (HD : Hid (∀ w, Calls Tryd.prog 24 #[.int .i64 n] w fun e w' => e = .returned (.string S) ∧ Plus w w')) (h0 : decide (n < 0) = true) (E1 E2 : Tk) (T1 : Hid (tokM (nats S) = ⟨[{ tk0 with k := 5, t := ⟨#[45]⟩ }, E1, E2], 0, 0⟩)) :
    Calls Tryd.prog 8 #[.int .i64 n] w fun e w' => e = .returned (.bool true) ∧ Plus w w' := by
  have hS2 : (S ++ ⟨#[110]⟩).size ≤ 41 := by rw [ByteArray.size_append]; show S.size + 1 ≤ 41; omega
  have hS3 : (⟨#[48]⟩ ++ S).size ≤ 41 := by rw [ByteArray.size_append]; show 1 + S.size ≤ 41; omega
  have HS2 := Lib.hid hS2
  have HS3 := Lib.hid hS3
  clear hS2 hS3
  go_enter Tryd.func8, Tryd.ntmps8
  go_wp2_with (first | (go_at_call 11; (with_reducible refine (first_c _ (Lib.hid (HL.out.plus (by repeat' (first | exact Plus.refl _ | refine Plus.alloc ?_ _ | refine Plus.plus ?_ _ | refine Plus.drew ?_ | refine Plus.drewN ?_ _))))).mono ?_); rintro e w1 ⟨rfl, ⟨y0, rfl⟩⟩) | (go_at_call 24; (with_reducible refine (HD.out _).mono ?_); rintro e w1 ⟨rfl, ⟨yd, rfl⟩⟩))
  with_reducible refine (ascii_c _ ?z1 _).mono ?_
  case z1 => exact (by omega)
  rintro e w1 ⟨A1, c1, rfl, q1, q2, q3, ⟨x1, rfl⟩⟩
  have N1 := Lib.hid (nats_new q1 q2 q3)
  clear q1 q2 q3
  go_wp2_with fail
  refine (tokR_c _ (nats S) _ _ _ N1.out (by rw [nats_len]; omega) (HL.out.plus (by repeat' (first | exact Plus.refl _ | refine Plus.alloc ?_ _ | refine Plus.plus ?_ _ | refine Plus.drew ?_ | refine Plus.drewN ?_ _)))).mono ?_
  rintro e w1 ⟨B1, d1, rs1, rfl, m1, k1, j1, R1, t1, ⟨y1, rfl⟩⟩
  rw [T1.out] at m1 ⊢
  dsimp only at m1 ⊢
  have M1 := Lib.hid m1
  have RR1 := Lib.hid R1
  clear m1 R1 t1
  go_wp2_with fail
  with_reducible refine (ascii_c _ ?z2 _).mono ?_
  case z2 => exact Nat.le_trans HS2.out (by decide)
  rintro e w1 ⟨A2, c2, rfl, q1, q2, q3, ⟨x2, rfl⟩⟩
  have N2 := Lib.hid (nats_new q1 q2 q3)
  clear q1 q2 q3
  go_wp2_with fail
  refine (tokR_c _ (nats (S ++ ⟨#[110]⟩)) _ _ _ N2.out (by rw [nats_len]; exact Nat.le_trans HS2.out (by decide)) (HL.out.plus (by repeat' (first | exact Plus.refl _ | refine Plus.alloc ?_ _ | refine Plus.plus ?_ _ | refine Plus.drew ?_ | refine Plus.drewN ?_ _)))).mono ?_
  rintro e w1 ⟨B2, d2, rs2, rfl, m2, k2, j2, R2, t2, ⟨y2, rfl⟩⟩
  have M2 := Lib.hid m2
  have RR2 := Lib.hid R2
  clear m2 R2 t2
  go_wp2_with fail
  with_reducible refine (ascii_c _ ?z3 _).mono ?_
  case z3 => exact Nat.le_trans HS3.out (by decide)
  rintro e w1 ⟨A3, c3, rfl, q1, q2, q3, ⟨x3, rfl⟩⟩
  have N3 := Lib.hid (nats_new q1 q2 q3)
  clear q1 q2 q3
  go_wp2_with fail
  refine (tokR_c _ (nats (⟨#[48]⟩ ++ S)) _ _ _ N3.out (by rw [nats_len]; exact Nat.le_trans HS3.out (by decide)) (HL.out.plus (by repeat' (first | exact Plus.refl _ | refine Plus.alloc ?_ _ | refine Plus.plus ?_ _ | refine Plus.drew ?_ | refine Plus.drewN ?_ _)))).mono ?_
  rintro e w1 ⟨B3, d3, rs3, rfl, m3, k3, j3, R3, t3, ⟨y3, rfl⟩⟩
  have M3 := Lib.hid m3
  have RR3 := Lib.hid R3
  clear m3 R3 t3
  have l1 : rs1.length = 3 := len_of M1.out
  obtain ⟨g1, eB1, hg1, hc1⟩ := RR1.out.plus (show Plus _ (plus (plus (plus (plus (plus (plus (plus (plus w y0) yd) x1) y1) x2) y2) x3) y3) from (by repeat' (first | exact Plus.refl _ | refine Plus.alloc ?_ _ | refine Plus.plus ?_ _ | refine Plus.drew ?_ | refine Plus.drewN ?_ _))) (by omega)
  subst eB1
  have hr1 : (rs1[0]'(by omega)).t = { tk0 with k := 5, t := ⟨#[45]⟩ } := el_of M1.out (by omega) rfl
  obtain ⟨r1, h1⟩ : ∃ r0, rs1[0]'(by omega) = r0 := ⟨_, rfl⟩
  rw [h1] at hr1
  obtain ⟨tt1, As1, cs1, Am1, cm1⟩ := r1
  dsimp only at hr1
  subst hr1
  have p11 := row_cell hc1 (i := 0) (j := 1) (by omega) (by decide)
  rw [h1] at p11
  replace p11 : _ = some (Value.string ⟨#[45]⟩) := p11
  simp only [Nat.reduceMul, Nat.reduceAdd] at p11
  clear hc1 h1
  have I1 : Old g1 (plus (plus (plus (plus (plus (plus (plus (plus w y0) yd) x1) y1) x2) y2) x3) y3) := ⟨hg1⟩
  rw [l1]
  go_wp2_with (first | (go_at_call 11; (with_reducible refine (first_c _ (Lib.hid (HL.out.plus (by repeat' (first | exact Plus.refl _ | refine Plus.alloc ?_ _ | refine Plus.plus ?_ _ | refine Plus.drew ?_ | refine Plus.drewN ?_ _))))).mono ?_); rintro e w1 ⟨rfl, ⟨y5, rfl⟩⟩))
  go_ret
  exact ⟨rfl, (by repeat' (first | exact Plus.refl _ | refine Plus.alloc ?_ _ | refine Plus.plus ?_ _ | refine Plus.drew ?_ | refine Plus.drewN ?_ _))⟩

theorem nats_app (s u : ByteArray) : nats (s ++ u) = nats s ++ nats u := by
  unfold nats
  rw [ByteArray.data_append]
  simp
theorem digits_go (n : Int) (w : World) (hL : Lai w) (hn : (Lit.int .i64 n).wf = true) : Calls Tryd.prog 8 #[.int .i64 n] w fun e w' => e = .returned (.bool true) ∧ Plus w w' := by
  have HL := Lib.hid hL
  have hb : -9223372036854775808 ≤ n ∧ n ≤ 9223372036854775807 := by
    have h := hn
    simp [Lit.wf, IntKind.min, IntKind.max, IntKind.signed, IntKind.bits] at h
    exact h
  by_cases h0 : n < 0
  · obtain ⟨m, hm⟩ : ∃ m : Nat, n = -(m : Int) := ⟨n.natAbs, by omega⟩
    have e1 : nats ⟨(45 :: Lib.decDigits m).toArray⟩ = 45 :: dgs m := rfl
    have hl := dgs_len m (by omega)
    have hS : (⟨(45 :: Lib.decDigits m).toArray⟩ : ByteArray).size ≤ 40 := by
      rw [← nats_len, e1, List.length_cons]
      omega
    have HD : Hid (∀ w, Calls Tryd.prog 24 #[.int .i64 n] w fun e w' => e = .returned (.string ⟨(45 :: Lib.decDigits m).toArray⟩) ∧ Plus w w') := Lib.hid (fun w => by rw [hm]; exact dec_n m (by omega) (by omega) w)
    rcases tok_neg m (by omega) with ⟨q1, q2⟩ | q
    · exact digits_e n w HL _ hS HD (by simpa using h0) (by simp; omega) (tokM (45 :: dgs m)).l (tokM (45 :: dgs m)).a (tokM (45 :: dgs m)).e _ (Lib.hid rfl) (by simpa using q1) (Lib.hid (by rw [e1]))
    · exact digits_k n w HL _ hS HD (by simpa using h0) _ _ (Lib.hid (by rw [e1, q]))
  · obtain ⟨m, hm⟩ : ∃ m : Nat, n = (m : Int) := ⟨n.toNat, by omega⟩
    have hl := dgs_len m (by omega)
    have hS : (⟨(Lib.decDigits m).toArray⟩ : ByteArray).size ≤ 40 := by
      rw [← nats_len]
      exact Nat.le_trans hl (by decide)
    have HD : Hid (∀ w, Calls Tryd.prog 24 #[.int .i64 n] w fun e w' => e = .returned (.string ⟨(Lib.decDigits m).toArray⟩) ∧ Plus w w') := Lib.hid (fun w => by rw [hm]; exact dec_c m (by omega) w)
    have T2 : tokM (nats (⟨(Lib.decDigits m).toArray⟩ ++ ⟨#[110]⟩)) = ⟨[{ tk0 with k := 3, b := n }, { tk0 with a := (dgs m).length + 1 }], 0, 0⟩ := by
      rw [nats_app, hm]
      exact tok_bigd m (by omega)
    have T3 : tokM (nats (⟨#[48]⟩ ++ ⟨(Lib.decDigits m).toArray⟩)) = ⟨[], 0, 5⟩ := by
      rw [nats_app]
      exact tok_zero m (by omega)
    have T1 := tok_dgs m (by omega)
    by_cases h1 : m ≤ 9007199254740991
    · rw [if_pos h1] at T1
      exact digits_p n w HL _ hS HD (by simp; omega) (by simp; omega) _ _ (Lib.hid (by rw [hm]; exact T1)) (Lib.hid T2) (Lib.hid T3)
    · rw [if_neg h1] at T1
      exact digits_l n w HL _ hS HD (by simp; omega) (by simp; omega) _ (Lib.hid T1) (Lib.hid T2) (Lib.hid T3)
end Go.Proofs.YtaigkjffglbknaaDoor
