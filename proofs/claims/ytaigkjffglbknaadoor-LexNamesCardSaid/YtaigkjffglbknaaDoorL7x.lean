/- The walk of LexNames. -/
import Derived.Deep.QuietTactic
import Derived.BigQuiet
import Derived.Test.YtaigkjffglbknaaDoorL7w
namespace Go.Proofs.YtaigkjffglbknaaDoor
open Go.RowKit


set_option maxRecDepth 100000 in
set_option maxHeartbeats 16000000 in
theorem names_n (s : ByteArray) (w : World) (HL : Hid (Lai w)) (hs : s.size ≤ 4000) (hs1 : s.size ≤ 1048576) (d0 : decide ((4000 : Int) < (s.size : Int)) = false) (HT : Hid (tokM (nats s) = ⟨oneT 1 s, 0, 0⟩)) (HN : Hid (nameB s = true)) (HW : Hid ((wordN s.data.toList : Int) = 0)) :
    Calls Tryd.prog 7 #[.string s] w fun e w' => e = .returned (.bool true) ∧ Plus w w' := by
  go_enter Tryd.func7, Tryd.ntmps7
  go_wp2_with (go_at_call 11; (with_reducible refine (first_c _ (Lib.hid (HL.out.plus (by repeat' (first | exact Plus.refl _ | refine Plus.alloc ?_ _ | refine Plus.plus ?_ _ | refine Plus.drew ?_ | refine Plus.drewN ?_ _))))).mono ?_); rintro e w1 ⟨rfl, ⟨y0, rfl⟩⟩)
  refine (ascii_c s (by omega) _).mono ?_
  rintro e w1 ⟨A1, c1, rfl, q1, q2, q3, ⟨x1, rfl⟩⟩
  have N1 := Lib.hid (nats_new q1 q2 q3)
  clear q1 q2 q3
  go_wp2_with fail
  refine (tokR_c _ (nats s) _ _ _ N1.out (by rw [nats_len]; omega) (HL.out.plus (by repeat' (first | exact Plus.refl _ | refine Plus.alloc ?_ _ | refine Plus.plus ?_ _ | refine Plus.drew ?_ | refine Plus.drewN ?_ _)))).mono ?_
  rintro e w1 ⟨B1, d1, rs, rfl, m1, k1, j1, r1, t1, ⟨y1, rfl⟩⟩
  have M1 := Lib.hid m1
  have R1 := Lib.hid r1
  clear m1 r1 t1
  rw [HT.out] at M1 ⊢
  have l1 : rs.length = 2 := len_of M1.out
  obtain ⟨g, eB, hg, hc⟩ := R1.out (by omega)
  subst eB
  have hr0 : (rs[0]'(by omega)).t = { tk0 with k := 1, t := s } := el_of M1.out (by omega) rfl
  obtain ⟨r0, h0⟩ : ∃ r0, rs[0]'(by omega) = r0 := ⟨_, rfl⟩
  rw [h0] at hr0
  obtain ⟨tt, As, cs, Am, cm⟩ := r0
  dsimp only at hr0
  subst hr0
  have p0 := row_cell hc (i := 0) (j := 0) (by omega) (by decide)
  have p1 := row_cell hc (i := 0) (j := 1) (by omega) (by decide)
  have p7 := row_cell hc (i := 0) (j := 7) (by omega) (by decide)
  rw [h0] at p0 p1 p7
  have p0 : _ = some (Value.int .i64 1) := p0
  have p1 : _ = some (Value.string s) := p1
  have p7 : _ = some (Value.int .i64 0) := p7
  simp only [Nat.reduceMul, Nat.reduceAdd] at p0 p1 p7
  clear hc h0
  have I1 : Old g _ := ⟨hg⟩
  go_wp2_with (first | (go_at_call 16; (with_reducible refine (name_k hs1 HN _).mono ?_); rintro e w1 ⟨rfl, ⟨z1, rfl⟩⟩))
  have P0 := fun x : More => cell_plus p0 (show Plus _ (plus (plus (plus (plus (plus w y0) x1) y1) z1) x) from (by repeat' (first | exact Plus.refl _ | refine Plus.alloc ?_ _ | refine Plus.plus ?_ _ | refine Plus.drew ?_ | refine Plus.drewN ?_ _)))
  have P1 := fun x : More => cell_plus p1 (show Plus _ (plus (plus (plus (plus (plus w y0) x1) y1) z1) x) from (by repeat' (first | exact Plus.refl _ | refine Plus.alloc ?_ _ | refine Plus.plus ?_ _ | refine Plus.drew ?_ | refine Plus.drewN ?_ _)))
  have P7 := fun x : More => cell_plus p7 (show Plus _ (plus (plus (plus (plus (plus w y0) x1) y1) z1) x) from (by repeat' (first | exact Plus.refl _ | refine Plus.alloc ?_ _ | refine Plus.plus ?_ _ | refine Plus.drew ?_ | refine Plus.drewN ?_ _)))
  refine wp_region_plus (by kernel_rfl) (by kernel_rfl) ?_
  repeat (go_big_quiet_step ((first | (go_at_call 11; exact calls_plus (first_c _ (Lib.hid (HL.out.plus (by repeat' (first | exact Plus.refl _ | refine Plus.alloc ?_ _ | refine Plus.plus ?_ _ | refine Plus.drew ?_ | refine Plus.drewN ?_ _)))))) | (go_at_call 16; exact calls_plus (name_k hs1 HN _)) | (go_at_call 12; exact calls_plus (word_k HW _)))))
  refine wpQuiet_nil ?_
  intro _ hw'
  obtain ⟨x9, rfl⟩ := hw'
  go_wp2_with fail
  go_ret
  exact ⟨rfl, (by repeat' (first | exact Plus.refl _ | refine Plus.alloc ?_ _ | refine Plus.plus ?_ _ | refine Plus.drew ?_ | refine Plus.drewN ?_ _))⟩

set_option maxRecDepth 100000 in
set_option maxHeartbeats 16000000 in
theorem names_w (s : ByteArray) (w : World) (HL : Hid (Lai w)) (hs : s.size ≤ 4000) (hs1 : s.size ≤ 1048576) (d0 : decide ((4000 : Int) < (s.size : Int)) = false) (HT : Hid (tokM (nats s) = ⟨oneT 6 s, 0, 0⟩)) (HN : Hid (nameB s = false)) (zz : Int) (HW : Hid ((wordN s.data.toList : Int) = zz)) (hz : 0 < zz) :
    Calls Tryd.prog 7 #[.string s] w fun e w' => e = .returned (.bool true) ∧ Plus w w' := by
  go_enter Tryd.func7, Tryd.ntmps7
  go_wp2_with (go_at_call 11; (with_reducible refine (first_c _ (Lib.hid (HL.out.plus (by repeat' (first | exact Plus.refl _ | refine Plus.alloc ?_ _ | refine Plus.plus ?_ _ | refine Plus.drew ?_ | refine Plus.drewN ?_ _))))).mono ?_); rintro e w1 ⟨rfl, ⟨y0, rfl⟩⟩)
  refine (ascii_c s (by omega) _).mono ?_
  rintro e w1 ⟨A1, c1, rfl, q1, q2, q3, ⟨x1, rfl⟩⟩
  have N1 := Lib.hid (nats_new q1 q2 q3)
  clear q1 q2 q3
  go_wp2_with fail
  refine (tokR_c _ (nats s) _ _ _ N1.out (by rw [nats_len]; omega) (HL.out.plus (by repeat' (first | exact Plus.refl _ | refine Plus.alloc ?_ _ | refine Plus.plus ?_ _ | refine Plus.drew ?_ | refine Plus.drewN ?_ _)))).mono ?_
  rintro e w1 ⟨B1, d1, rs, rfl, m1, k1, j1, r1, t1, ⟨y1, rfl⟩⟩
  have M1 := Lib.hid m1
  have R1 := Lib.hid r1
  clear m1 r1 t1
  rw [HT.out] at M1 ⊢
  have l1 : rs.length = 2 := len_of M1.out
  obtain ⟨g, eB, hg, hc⟩ := R1.out (by omega)
  subst eB
  have hr0 : (rs[0]'(by omega)).t = { tk0 with k := 6, t := s } := el_of M1.out (by omega) rfl
  obtain ⟨r0, h0⟩ : ∃ r0, rs[0]'(by omega) = r0 := ⟨_, rfl⟩
  rw [h0] at hr0
  obtain ⟨tt, As, cs, Am, cm⟩ := r0
  dsimp only at hr0
  subst hr0
  have p0 := row_cell hc (i := 0) (j := 0) (by omega) (by decide)
  have p1 := row_cell hc (i := 0) (j := 1) (by omega) (by decide)
  have p7 := row_cell hc (i := 0) (j := 7) (by omega) (by decide)
  rw [h0] at p0 p1 p7
  have p0 : _ = some (Value.int .i64 6) := p0
  have p1 : _ = some (Value.string s) := p1
  have p7 : _ = some (Value.int .i64 0) := p7
  simp only [Nat.reduceMul, Nat.reduceAdd] at p0 p1 p7
  clear hc h0
  have I1 : Old g _ := ⟨hg⟩
  go_wp2_with (first | (go_at_call 16; (with_reducible refine (name_k hs1 HN _).mono ?_); rintro e w1 ⟨rfl, ⟨z1, rfl⟩⟩) | (go_at_call 12; (with_reducible refine (word_k HW _).mono ?_); rintro e w1 ⟨rfl, ⟨z2, rfl⟩⟩))
  have P0 := fun x : More => cell_plus p0 (show Plus _ (plus (plus (plus (plus (plus (plus w y0) x1) y1) z1) z2) x) from (by repeat' (first | exact Plus.refl _ | refine Plus.alloc ?_ _ | refine Plus.plus ?_ _ | refine Plus.drew ?_ | refine Plus.drewN ?_ _)))
  have P1 := fun x : More => cell_plus p1 (show Plus _ (plus (plus (plus (plus (plus (plus w y0) x1) y1) z1) z2) x) from (by repeat' (first | exact Plus.refl _ | refine Plus.alloc ?_ _ | refine Plus.plus ?_ _ | refine Plus.drew ?_ | refine Plus.drewN ?_ _)))
  have P7 := fun x : More => cell_plus p7 (show Plus _ (plus (plus (plus (plus (plus (plus w y0) x1) y1) z1) z2) x) from (by repeat' (first | exact Plus.refl _ | refine Plus.alloc ?_ _ | refine Plus.plus ?_ _ | refine Plus.drew ?_ | refine Plus.drewN ?_ _)))
  refine wp_region_plus (by kernel_rfl) (by kernel_rfl) ?_
  repeat (go_big_quiet_step ((first | (go_at_call 11; exact calls_plus (first_c _ (Lib.hid (HL.out.plus (by repeat' (first | exact Plus.refl _ | refine Plus.alloc ?_ _ | refine Plus.plus ?_ _ | refine Plus.drew ?_ | refine Plus.drewN ?_ _)))))) | (go_at_call 16; exact calls_plus (name_k hs1 HN _)) | (go_at_call 12; exact calls_plus (word_k HW _)))))
  refine wpQuiet_nil ?_
  intro _ hw'
  obtain ⟨x9, rfl⟩ := hw'
  go_wp2_with fail
  go_ret
  exact ⟨rfl, (by repeat' (first | exact Plus.refl _ | refine Plus.alloc ?_ _ | refine Plus.plus ?_ _ | refine Plus.drew ?_ | refine Plus.drewN ?_ _))⟩

set_option maxRecDepth 100000 in
set_option maxHeartbeats 16000000 in
theorem names_s (s : ByteArray) (w : World) (HL : Hid (Lai w)) (hs : s.size ≤ 4000) (hs1 : s.size ≤ 1048576) (d0 : decide ((4000 : Int) < (s.size : Int)) = false) (HT : Hid (tokM (nats s) = ⟨oneT 5 s, 0, 0⟩)) (HN : Hid (nameB s = false)) (HW : Hid ((wordN s.data.toList : Int) = 0)) (HS : Hid ((signN s.data.toList : Int) = 1)) :
    Calls Tryd.prog 7 #[.string s] w fun e w' => e = .returned (.bool true) ∧ Plus w w' := by
  go_enter Tryd.func7, Tryd.ntmps7
  go_wp2_with (go_at_call 11; (with_reducible refine (first_c _ (Lib.hid (HL.out.plus (by repeat' (first | exact Plus.refl _ | refine Plus.alloc ?_ _ | refine Plus.plus ?_ _ | refine Plus.drew ?_ | refine Plus.drewN ?_ _))))).mono ?_); rintro e w1 ⟨rfl, ⟨y0, rfl⟩⟩)
  refine (ascii_c s (by omega) _).mono ?_
  rintro e w1 ⟨A1, c1, rfl, q1, q2, q3, ⟨x1, rfl⟩⟩
  have N1 := Lib.hid (nats_new q1 q2 q3)
  clear q1 q2 q3
  go_wp2_with fail
  refine (tokR_c _ (nats s) _ _ _ N1.out (by rw [nats_len]; omega) (HL.out.plus (by repeat' (first | exact Plus.refl _ | refine Plus.alloc ?_ _ | refine Plus.plus ?_ _ | refine Plus.drew ?_ | refine Plus.drewN ?_ _)))).mono ?_
  rintro e w1 ⟨B1, d1, rs, rfl, m1, k1, j1, r1, t1, ⟨y1, rfl⟩⟩
  have M1 := Lib.hid m1
  have R1 := Lib.hid r1
  clear m1 r1 t1
  rw [HT.out] at M1 ⊢
  have l1 : rs.length = 2 := len_of M1.out
  obtain ⟨g, eB, hg, hc⟩ := R1.out (by omega)
  subst eB
  have hr0 : (rs[0]'(by omega)).t = { tk0 with k := 5, t := s } := el_of M1.out (by omega) rfl
  obtain ⟨r0, h0⟩ : ∃ r0, rs[0]'(by omega) = r0 := ⟨_, rfl⟩
  rw [h0] at hr0
  obtain ⟨tt, As, cs, Am, cm⟩ := r0
  dsimp only at hr0
  subst hr0
  have p0 := row_cell hc (i := 0) (j := 0) (by omega) (by decide)
  have p1 := row_cell hc (i := 0) (j := 1) (by omega) (by decide)
  have p7 := row_cell hc (i := 0) (j := 7) (by omega) (by decide)
  rw [h0] at p0 p1 p7
  have p0 : _ = some (Value.int .i64 5) := p0
  have p1 : _ = some (Value.string s) := p1
  have p7 : _ = some (Value.int .i64 0) := p7
  simp only [Nat.reduceMul, Nat.reduceAdd] at p0 p1 p7
  clear hc h0
  have I1 : Old g _ := ⟨hg⟩
  go_wp2_with (first | (go_at_call 16; (with_reducible refine (name_k hs1 HN _).mono ?_); rintro e w1 ⟨rfl, ⟨z1, rfl⟩⟩) | (go_at_call 12; (with_reducible refine (word_k HW _).mono ?_); rintro e w1 ⟨rfl, ⟨z2, rfl⟩⟩) | (go_at_call 14; (with_reducible refine (sign_k HS _).mono ?_); rintro e w1 ⟨rfl, ⟨z3, rfl⟩⟩))
  have P0 := fun x : More => cell_plus p0 (show Plus _ (plus (plus (plus (plus (plus (plus (plus w y0) x1) y1) z1) z2) z3) x) from (by repeat' (first | exact Plus.refl _ | refine Plus.alloc ?_ _ | refine Plus.plus ?_ _ | refine Plus.drew ?_ | refine Plus.drewN ?_ _)))
  have P1 := fun x : More => cell_plus p1 (show Plus _ (plus (plus (plus (plus (plus (plus (plus w y0) x1) y1) z1) z2) z3) x) from (by repeat' (first | exact Plus.refl _ | refine Plus.alloc ?_ _ | refine Plus.plus ?_ _ | refine Plus.drew ?_ | refine Plus.drewN ?_ _)))
  have P7 := fun x : More => cell_plus p7 (show Plus _ (plus (plus (plus (plus (plus (plus (plus w y0) x1) y1) z1) z2) z3) x) from (by repeat' (first | exact Plus.refl _ | refine Plus.alloc ?_ _ | refine Plus.plus ?_ _ | refine Plus.drew ?_ | refine Plus.drewN ?_ _)))
  refine wp_region_plus (by kernel_rfl) (by kernel_rfl) ?_
  repeat (go_big_quiet_step ((first | (go_at_call 11; exact calls_plus (first_c _ (Lib.hid (HL.out.plus (by repeat' (first | exact Plus.refl _ | refine Plus.alloc ?_ _ | refine Plus.plus ?_ _ | refine Plus.drew ?_ | refine Plus.drewN ?_ _)))))) | (go_at_call 16; exact calls_plus (name_k hs1 HN _)) | (go_at_call 12; exact calls_plus (word_k HW _)))))
  refine wpQuiet_nil ?_
  intro _ hw'
  obtain ⟨x9, rfl⟩ := hw'
  go_wp2_with fail
  go_ret
  exact ⟨rfl, (by repeat' (first | exact Plus.refl _ | refine Plus.alloc ?_ _ | refine Plus.plus ?_ _ | refine Plus.drew ?_ | refine Plus.drewN ?_ _))⟩

set_option maxRecDepth 100000 in
set_option maxHeartbeats 16000000 in
theorem names_2 (s : ByteArray) (w : World) (HL : Hid (Lai w)) (hs : s.size ≤ 4000) (hs1 : s.size ≤ 1048576) (d0 : decide ((4000 : Int) < (s.size : Int)) = false) (HN : Hid (nameB s = false)) (HW : Hid ((wordN s.data.toList : Int) = 0)) (HS : Hid ((signN s.data.toList : Int) = 2)) (h6 : (tokM (nats s)).e = 6) :
    Calls Tryd.prog 7 #[.string s] w fun e w' => e = .returned (.bool true) ∧ Plus w w' := by
  obtain ⟨ee, he⟩ : ∃ ee, (tokM (nats s)).e = ee := ⟨_, rfl⟩
  have HEE := Lib.hid he
  obtain rfl : ee = 6 := he.symm.trans h6
  clear he
  go_enter Tryd.func7, Tryd.ntmps7
  go_wp2_with (go_at_call 11; (with_reducible refine (first_c _ (Lib.hid (HL.out.plus (by repeat' (first | exact Plus.refl _ | refine Plus.alloc ?_ _ | refine Plus.plus ?_ _ | refine Plus.drew ?_ | refine Plus.drewN ?_ _))))).mono ?_); rintro e w1 ⟨rfl, ⟨y0, rfl⟩⟩)
  refine (ascii_c s (by omega) _).mono ?_
  rintro e w1 ⟨A1, c1, rfl, q1, q2, q3, ⟨x1, rfl⟩⟩
  have N1 := Lib.hid (nats_new q1 q2 q3)
  clear q1 q2 q3
  go_wp2_with fail
  refine (tokR_c _ (nats s) _ _ _ N1.out (by rw [nats_len]; omega) (HL.out.plus (by repeat' (first | exact Plus.refl _ | refine Plus.alloc ?_ _ | refine Plus.plus ?_ _ | refine Plus.drew ?_ | refine Plus.drewN ?_ _)))).mono ?_
  rintro e w1 ⟨B1, d1, rs, rfl, m1, k1, j1, r1, t1, ⟨y1, rfl⟩⟩
  have M1 := Lib.hid m1
  have R1 := Lib.hid r1
  clear m1 r1 t1
  rw [HEE.out]
  go_wp2_with (first | (go_at_call 16; (with_reducible refine (name_k hs1 HN _).mono ?_); rintro e w1 ⟨rfl, ⟨z1, rfl⟩⟩) | (go_at_call 12; (with_reducible refine (word_k HW _).mono ?_); rintro e w1 ⟨rfl, ⟨z2, rfl⟩⟩) | (go_at_call 14; (with_reducible refine (sign_k HS _).mono ?_); rintro e w1 ⟨rfl, ⟨z3, rfl⟩⟩) | (go_at_call 11; (with_reducible refine (first_c _ (Lib.hid (HL.out.plus (by repeat' (first | exact Plus.refl _ | refine Plus.alloc ?_ _ | refine Plus.plus ?_ _ | refine Plus.drew ?_ | refine Plus.drewN ?_ _))))).mono ?_); rintro e w1 ⟨rfl, ⟨y0, rfl⟩⟩))
  go_ret
  exact ⟨rfl, (by repeat' (first | exact Plus.refl _ | refine Plus.alloc ?_ _ | refine Plus.plus ?_ _ | refine Plus.drew ?_ | refine Plus.drewN ?_ _))⟩

set_option maxRecDepth 100000 in
set_option maxHeartbeats 16000000 in
theorem names_0 (s : ByteArray) (w : World) (HL : Hid (Lai w)) (hs : s.size ≤ 4000) (hs1 : s.size ≤ 1048576) (d0 : decide ((4000 : Int) < (s.size : Int)) = false) (HN : Hid (nameB s = false)) (HW : Hid ((wordN s.data.toList : Int) = 0)) (zz : Int) (HS : Hid ((signN s.data.toList : Int) = zz)) (b1 : (zz == 1) = false) (_b2 : (zz == 2) = false) (b3 : (zz != 2) = true) :
    Calls Tryd.prog 7 #[.string s] w fun e w' => e = .returned (.bool true) ∧ Plus w w' := by
  obtain ⟨ee, he⟩ : ∃ ee, (tokM (nats s)).e = ee := ⟨_, rfl⟩
  have HEE := Lib.hid he
  clear he
  go_enter Tryd.func7, Tryd.ntmps7
  go_wp2_with (go_at_call 11; (with_reducible refine (first_c _ (Lib.hid (HL.out.plus (by repeat' (first | exact Plus.refl _ | refine Plus.alloc ?_ _ | refine Plus.plus ?_ _ | refine Plus.drew ?_ | refine Plus.drewN ?_ _))))).mono ?_); rintro e w1 ⟨rfl, ⟨y0, rfl⟩⟩)
  refine (ascii_c s (by omega) _).mono ?_
  rintro e w1 ⟨A1, c1, rfl, q1, q2, q3, ⟨x1, rfl⟩⟩
  have N1 := Lib.hid (nats_new q1 q2 q3)
  clear q1 q2 q3
  go_wp2_with fail
  refine (tokR_c _ (nats s) _ _ _ N1.out (by rw [nats_len]; omega) (HL.out.plus (by repeat' (first | exact Plus.refl _ | refine Plus.alloc ?_ _ | refine Plus.plus ?_ _ | refine Plus.drew ?_ | refine Plus.drewN ?_ _)))).mono ?_
  rintro e w1 ⟨B1, d1, rs, rfl, m1, k1, j1, r1, t1, ⟨y1, rfl⟩⟩
  have M1 := Lib.hid m1
  have R1 := Lib.hid r1
  clear m1 r1 t1
  rw [HEE.out]
  go_wp2_with (first | (go_at_call 16; (with_reducible refine (name_k hs1 HN _).mono ?_); rintro e w1 ⟨rfl, ⟨z1, rfl⟩⟩) | (go_at_call 12; (with_reducible refine (word_k HW _).mono ?_); rintro e w1 ⟨rfl, ⟨z2, rfl⟩⟩) | (go_at_call 14; (with_reducible refine (sign_k HS _).mono ?_); rintro e w1 ⟨rfl, ⟨z3, rfl⟩⟩) | (go_at_call 11; (with_reducible refine (first_c _ (Lib.hid (HL.out.plus (by repeat' (first | exact Plus.refl _ | refine Plus.alloc ?_ _ | refine Plus.plus ?_ _ | refine Plus.drew ?_ | refine Plus.drewN ?_ _))))).mono ?_); rintro e w1 ⟨rfl, ⟨y0, rfl⟩⟩))
  go_ret
  exact ⟨rfl, (by repeat' (first | exact Plus.refl _ | refine Plus.alloc ?_ _ | refine Plus.plus ?_ _ | refine Plus.drew ?_ | refine Plus.drewN ?_ _))⟩

set_option maxRecDepth 100000 in
set_option maxHeartbeats 4000000 in
theorem names_few (s : ByteArray) (w : World) (HL : Hid (Lai w)) (d0 : decide ((4000 : Int) < (s.size : Int)) = true) :
    Calls Tryd.prog 7 #[.string s] w fun e w' => e = .returned (.bool true) ∧ Plus w w' := by
  go_enter Tryd.func7, Tryd.ntmps7
  go_wp2_with (go_at_call 11; (with_reducible refine (first_c _ (Lib.hid (HL.out.plus (by repeat' (first | exact Plus.refl _ | refine Plus.alloc ?_ _ | refine Plus.plus ?_ _ | refine Plus.drew ?_ | refine Plus.drewN ?_ _))))).mono ?_); rintro e w1 ⟨rfl, ⟨y0, rfl⟩⟩)
  go_ret
  exact ⟨rfl, (by repeat' (first | exact Plus.refl _ | refine Plus.alloc ?_ _ | refine Plus.plus ?_ _ | refine Plus.drew ?_ | refine Plus.drewN ?_ _))⟩
theorem names_go (s : ByteArray) (w : World) (hL : Lai w) : Calls Tryd.prog 7 #[.string s] w fun e w' => e = .returned (.bool true) ∧ Plus w w' := by
  have HL := Lib.hid hL
  by_cases hs : s.size ≤ 4000
  · have d0 : decide ((4000 : Int) < (s.size : Int)) = false := by simp; omega
    have hs1 : s.size ≤ 1048576 := by omega
    cases hn : nameB s
    · by_cases hw : wordN s.data.toList = 0
      · have HW : Hid ((wordN s.data.toList : Int) = 0) := Lib.hid (by rw [hw]; rfl)
        by_cases h1 : signN s.data.toList = 1
        · exact names_s s w HL hs hs1 d0 (Lib.hid (tok_sign1 s h1)) (Lib.hid hn) HW (Lib.hid (by rw [h1]; rfl))
        · by_cases h2 : signN s.data.toList = 2
          · exact names_2 s w HL hs hs1 d0 (Lib.hid hn) HW (Lib.hid (by rw [h2]; rfl)) (tok_sign2 s h2)
          · exact names_0 s w HL hs hs1 d0 (Lib.hid hn) HW _ (Lib.hid rfl) (by simp; omega) (by simp; omega) (by simp; omega)
      · exact names_w s w HL hs hs1 d0 (Lib.hid (tok_isword s hw (by omega))) (Lib.hid hn) _ (Lib.hid rfl) (by omega)
    · obtain ⟨h1, h2⟩ := tok_isname s hn (by omega)
      exact names_n s w HL hs hs1 d0 (Lib.hid h1) (Lib.hid hn) (Lib.hid (by rw [h2]; rfl))
  · exact names_few s w HL (by simp; omega)
end Go.Proofs.YtaigkjffglbknaaDoor
