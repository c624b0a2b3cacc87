/- The walk of LexBlanks. -/
import Derived.Deep.QuietTactic
import Derived.BigQuiet
import Derived.Test.YtaigkjffglbknaaDoorL9w
import Derived.Test.YtaigkjffglbknaaDoorQ2
import Derived.Test.YtaigkjffglbknaaDoorB4
namespace Go.Proofs.YtaigkjffglbknaaDoor
open Go.RowKit


set_option maxRecDepth 100000 in
set_option maxHeartbeats 16000000 in
theorem blanks_erz (A : Option Addr) (xs : List Nat) (n c : Nat) (w : World) (HL : Hid (Lai w)) (ha : Hid (Ar .u16 65536 w A xs n c)) (hn : n ≤ 4000) (d0 : decide ((4000 : Int) < (n : Int)) = false) (h0n : n = 0) (a a2 er : Nat) (za zb ze : Int) (Ha : Hid ((a : Int) = za)) (Hb : Hid ((a2 : Int) = zb)) (He : Hid ((er : Int) = ze)) (h0a : 0 ≤ za) (h1a : za ≤ 5000) (e1 : (zb == za + 1) = true) (he : (ze != 0) = true) (T1 : Hid (tokM xs = ⟨[], a, er⟩)) (T2 : Hid (tokM (32 :: xs) = ⟨[], a2, er⟩)) (T3 : Hid (tokM (10 :: xs) = ⟨[], a2, er⟩)) :
    Calls Tryd.prog 5 #[.slice A n c] w fun e w' => e = .returned (.bool true) ∧ Plus w w' := by
  subst h0n
  obtain ⟨i0, hi, hz0, hz1, hz2⟩ := info_parts infoU16
  have hlen := Lib.hid ha.out.len
  have hbd := Lib.hid ha.out.bd
  have hxl : xs.length ≤ 4000 := by have := ha.out.len; omega
  go_enter Tryd.func5, Tryd.ntmps5
  go_wp2_with (go_at_call 11; (with_reducible refine (first_c _ (Lib.hid (HL.out.plus (by repeat' (first | exact Plus.refl _ | refine Plus.alloc ?_ _ | refine Plus.plus ?_ _ | refine Plus.drew ?_ | refine Plus.drewN ?_ _))))).mono ?_); rintro e w1 ⟨rfl, ⟨y0, rfl⟩⟩)
  refine (tokR_c _ xs _ _ _ (ha.out.plus (by repeat' (first | exact Plus.refl _ | refine Plus.alloc ?_ _ | refine Plus.plus ?_ _ | refine Plus.drew ?_ | refine Plus.drewN ?_ _))) (by omega) (HL.out.plus (by repeat' (first | exact Plus.refl _ | refine Plus.alloc ?_ _ | refine Plus.plus ?_ _ | refine Plus.drew ?_ | refine Plus.drewN ?_ _)))).mono ?_
  rintro e w1 ⟨B1, d1, rs1, rfl, m1, k1, j1, R1, t1, ⟨y1, rfl⟩⟩
  rw [T1.out] at m1 ⊢
  dsimp only at m1 ⊢
  have M1 := Lib.hid m1
  have RR1 := Lib.hid R1
  have TT1 := Lib.hid t1
  clear m1 R1 t1
  go_wp2_with (at_builtin; refine wpList_append_rd (by rfl) _ _ 25 rfl (plus (plus w y0) y1).heap.size 40 i0 (.int .u16 0) 2 .u16 Tryd.underlying25 hi hz0 hz1 hz2 (by decide) _ [32] xs rfl (own_lit (plus (plus w y0) y1) _ 32 _ (by omega) (by simp [go_sem])) _ _ _ rfl hlen.out (ha.out.rd.plus (by repeat' (first | exact Plus.refl _ | refine Plus.alloc ?_ _ | refine Plus.plus ?_ _ | refine Plus.drew ?_ | refine Plus.drewN ?_ _))) (by simp; unfold maxLen; omega) (by simp; omega) (by simp [go_sem]) ?_; intro vv w1 hown1 hgr1; obtain ⟨z1, rfl⟩ := below_rd (own_lit (plus (plus w y0) y1) _ 32 _ (by omega) (by simp [go_sem])) ((Plus.refl _).alloc _) hgr1; have HO2 : Hid ((plus (plus (plus w y0) y1) z1).ownsRow (plus (plus w y0) y1).heap.size 40 1 vv (32 :: xs).length (vals .u16 (32 :: xs))) := Lib.hid (by rw [List.length_cons, Nat.add_comm]; exact hown1); clear hown1 hgr1)
  obtain ⟨C2, dd2, rfl, r1, r2, r3⟩ := rd_of_own HO2.out
  have hb2 : ∀ x ∈ 32 :: xs, x < 65536 := fun x hx => by
    simp at hx
    rcases hx with rfl | h
    · decide
    · exact hbd.out x h
  have NB2 : Hid (Ar .u16 65536 _ C2 (32 :: xs) (32 :: xs).length dd2) := Lib.hid ⟨r3, rfl, r1, r2, hb2⟩
  clear r1 r2 r3 hb2
  refine (tokR_c C2 (32 :: xs) _ dd2 _ NB2.out (by simp; omega) (HL.out.plus (by repeat' (first | exact Plus.refl _ | refine Plus.alloc ?_ _ | refine Plus.plus ?_ _ | refine Plus.drew ?_ | refine Plus.drewN ?_ _)))).mono ?_
  rintro e w1 ⟨B2, d2, rs2, rfl, m2, k2, j2, R2, t2, ⟨y2, rfl⟩⟩
  rw [T2.out] at m2 ⊢
  dsimp only at m2 ⊢
  have M2 := Lib.hid m2
  have RR2 := Lib.hid R2
  have TT2 := Lib.hid t2
  clear m2 R2 t2
  go_wp2_with (at_builtin; refine wpList_append_rd (by rfl) _ _ 25 rfl (plus (plus (plus (plus w y0) y1) z1) y2).heap.size 40 i0 (.int .u16 0) 2 .u16 Tryd.underlying25 hi hz0 hz1 hz2 (by decide) _ [10] xs rfl (own_lit (plus (plus (plus (plus w y0) y1) z1) y2) _ 10 _ (by omega) (by simp [go_sem])) _ _ _ rfl hlen.out (ha.out.rd.plus (by repeat' (first | exact Plus.refl _ | refine Plus.alloc ?_ _ | refine Plus.plus ?_ _ | refine Plus.drew ?_ | refine Plus.drewN ?_ _))) (by simp; unfold maxLen; omega) (by simp; omega) (by simp [go_sem]) ?_; intro vv w1 hown1 hgr1; obtain ⟨z2, rfl⟩ := below_rd (own_lit (plus (plus (plus (plus w y0) y1) z1) y2) _ 10 _ (by omega) (by simp [go_sem])) ((Plus.refl _).alloc _) hgr1; have HO3 : Hid ((plus (plus (plus (plus (plus w y0) y1) z1) y2) z2).ownsRow (plus (plus (plus (plus w y0) y1) z1) y2).heap.size 40 1 vv (10 :: xs).length (vals .u16 (10 :: xs))) := Lib.hid (by rw [List.length_cons, Nat.add_comm]; exact hown1); clear hown1 hgr1)
  obtain ⟨C3, dd3, rfl, r1, r2, r3⟩ := rd_of_own HO3.out
  have hb3 : ∀ x ∈ 10 :: xs, x < 65536 := fun x hx => by
    simp at hx
    rcases hx with rfl | h
    · decide
    · exact hbd.out x h
  have NB3 : Hid (Ar .u16 65536 _ C3 (10 :: xs) (10 :: xs).length dd3) := Lib.hid ⟨r3, rfl, r1, r2, hb3⟩
  clear r1 r2 r3 hb3
  refine (tokR_c C3 (10 :: xs) _ dd3 _ NB3.out (by simp; omega) (HL.out.plus (by repeat' (first | exact Plus.refl _ | refine Plus.alloc ?_ _ | refine Plus.plus ?_ _ | refine Plus.drew ?_ | refine Plus.drewN ?_ _)))).mono ?_
  rintro e w1 ⟨B3, d3, rs3, rfl, m3, k3, j3, R3, t3, ⟨y3, rfl⟩⟩
  rw [T3.out] at m3 ⊢
  dsimp only at m3 ⊢
  have M3 := Lib.hid m3
  have RR3 := Lib.hid R3
  have TT3 := Lib.hid t3
  clear m3 R3 t3
  rw [Ha.out, Hb.out, He.out]
  go_wp2_with (first | (go_at_call 11; (with_reducible refine (first_c _ (Lib.hid (HL.out.plus (by repeat' (first | exact Plus.refl _ | refine Plus.alloc ?_ _ | refine Plus.plus ?_ _ | refine Plus.drew ?_ | refine Plus.drewN ?_ _))))).mono ?_); rintro e w1 ⟨rfl, ⟨y5, rfl⟩⟩))
  go_ret
  exact ⟨rfl, (by repeat' (first | exact Plus.refl _ | refine Plus.alloc ?_ _ | refine Plus.plus ?_ _ | refine Plus.drew ?_ | refine Plus.drewN ?_ _))⟩

set_option maxRecDepth 100000 in
set_option maxHeartbeats 16000000 in
theorem blanks_erp (A : Option Addr) (xs : List Nat) (n c : Nat) (w : World) (HL : Hid (Lai w)) (ha : Hid (Ar .u16 65536 w A xs n c)) (hn : n ≤ 4000) (d0 : decide ((4000 : Int) < (n : Int)) = false) (g o v : Nat) (h0n : 0 < n) (hA : A = some ⟨g, o, none⟩) (I0 : Old g w) (hv0 : w.cell? ⟨g, o, none⟩ = some (.int .u16 (v : Nat))) (h35 : ((v : Int) == 35) = false) (a a2 er : Nat) (za zb ze : Int) (Ha : Hid ((a : Int) = za)) (Hb : Hid ((a2 : Int) = zb)) (He : Hid ((er : Int) = ze)) (h0a : 0 ≤ za) (h1a : za ≤ 5000) (e1 : (zb == za + 1) = true) (he : (ze != 0) = true) (T1 : Hid (tokM xs = ⟨[], a, er⟩)) (T2 : Hid (tokM (32 :: xs) = ⟨[], a2, er⟩)) (T3 : Hid (tokM (10 :: xs) = ⟨[], a2, er⟩)) :
    Calls Tryd.prog 5 #[.slice A n c] w fun e w' => e = .returned (.bool true) ∧ Plus w w' := by
  subst hA
  obtain ⟨i0, hi, hz0, hz1, hz2⟩ := info_parts infoU16
  have hlen := Lib.hid ha.out.len
  have hbd := Lib.hid ha.out.bd
  have hxl : xs.length ≤ 4000 := by have := ha.out.len; omega
  go_enter Tryd.func5, Tryd.ntmps5
  go_wp2_with (go_at_call 11; (with_reducible refine (first_c _ (Lib.hid (HL.out.plus (by repeat' (first | exact Plus.refl _ | refine Plus.alloc ?_ _ | refine Plus.plus ?_ _ | refine Plus.drew ?_ | refine Plus.drewN ?_ _))))).mono ?_); rintro e w1 ⟨rfl, ⟨y0, rfl⟩⟩)
  refine (tokR_c _ xs _ _ _ (ha.out.plus (by repeat' (first | exact Plus.refl _ | refine Plus.alloc ?_ _ | refine Plus.plus ?_ _ | refine Plus.drew ?_ | refine Plus.drewN ?_ _))) (by omega) (HL.out.plus (by repeat' (first | exact Plus.refl _ | refine Plus.alloc ?_ _ | refine Plus.plus ?_ _ | refine Plus.drew ?_ | refine Plus.drewN ?_ _)))).mono ?_
  rintro e w1 ⟨B1, d1, rs1, rfl, m1, k1, j1, R1, t1, ⟨y1, rfl⟩⟩
  rw [T1.out] at m1 ⊢
  dsimp only at m1 ⊢
  have M1 := Lib.hid m1
  have RR1 := Lib.hid R1
  have TT1 := Lib.hid t1
  clear m1 R1 t1
  go_wp2_with (at_builtin; refine wpList_append_rd (by rfl) _ _ 25 rfl (plus (plus w y0) y1).heap.size 40 i0 (.int .u16 0) 2 .u16 Tryd.underlying25 hi hz0 hz1 hz2 (by decide) _ [32] xs rfl (own_lit (plus (plus w y0) y1) _ 32 _ (by omega) (by simp [go_sem])) _ _ _ rfl hlen.out (ha.out.rd.plus (by repeat' (first | exact Plus.refl _ | refine Plus.alloc ?_ _ | refine Plus.plus ?_ _ | refine Plus.drew ?_ | refine Plus.drewN ?_ _))) (by simp; unfold maxLen; omega) (by simp; omega) (by simp [go_sem]) ?_; intro vv w1 hown1 hgr1; obtain ⟨z1, rfl⟩ := below_rd (own_lit (plus (plus w y0) y1) _ 32 _ (by omega) (by simp [go_sem])) ((Plus.refl _).alloc _) hgr1; have HO2 : Hid ((plus (plus (plus w y0) y1) z1).ownsRow (plus (plus w y0) y1).heap.size 40 1 vv (32 :: xs).length (vals .u16 (32 :: xs))) := Lib.hid (by rw [List.length_cons, Nat.add_comm]; exact hown1); clear hown1 hgr1)
  obtain ⟨C2, dd2, rfl, r1, r2, r3⟩ := rd_of_own HO2.out
  have hb2 : ∀ x ∈ 32 :: xs, x < 65536 := fun x hx => by
    simp at hx
    rcases hx with rfl | h
    · decide
    · exact hbd.out x h
  have NB2 : Hid (Ar .u16 65536 _ C2 (32 :: xs) (32 :: xs).length dd2) := Lib.hid ⟨r3, rfl, r1, r2, hb2⟩
  clear r1 r2 r3 hb2
  refine (tokR_c C2 (32 :: xs) _ dd2 _ NB2.out (by simp; omega) (HL.out.plus (by repeat' (first | exact Plus.refl _ | refine Plus.alloc ?_ _ | refine Plus.plus ?_ _ | refine Plus.drew ?_ | refine Plus.drewN ?_ _)))).mono ?_
  rintro e w1 ⟨B2, d2, rs2, rfl, m2, k2, j2, R2, t2, ⟨y2, rfl⟩⟩
  rw [T2.out] at m2 ⊢
  dsimp only at m2 ⊢
  have M2 := Lib.hid m2
  have RR2 := Lib.hid R2
  have TT2 := Lib.hid t2
  clear m2 R2 t2
  go_wp2_with (at_builtin; refine wpList_append_rd (by rfl) _ _ 25 rfl (plus (plus (plus (plus w y0) y1) z1) y2).heap.size 40 i0 (.int .u16 0) 2 .u16 Tryd.underlying25 hi hz0 hz1 hz2 (by decide) _ [10] xs rfl (own_lit (plus (plus (plus (plus w y0) y1) z1) y2) _ 10 _ (by omega) (by simp [go_sem])) _ _ _ rfl hlen.out (ha.out.rd.plus (by repeat' (first | exact Plus.refl _ | refine Plus.alloc ?_ _ | refine Plus.plus ?_ _ | refine Plus.drew ?_ | refine Plus.drewN ?_ _))) (by simp; unfold maxLen; omega) (by simp; omega) (by simp [go_sem]) ?_; intro vv w1 hown1 hgr1; obtain ⟨z2, rfl⟩ := below_rd (own_lit (plus (plus (plus (plus w y0) y1) z1) y2) _ 10 _ (by omega) (by simp [go_sem])) ((Plus.refl _).alloc _) hgr1; have HO3 : Hid ((plus (plus (plus (plus (plus w y0) y1) z1) y2) z2).ownsRow (plus (plus (plus (plus w y0) y1) z1) y2).heap.size 40 1 vv (10 :: xs).length (vals .u16 (10 :: xs))) := Lib.hid (by rw [List.length_cons, Nat.add_comm]; exact hown1); clear hown1 hgr1)
  obtain ⟨C3, dd3, rfl, r1, r2, r3⟩ := rd_of_own HO3.out
  have hb3 : ∀ x ∈ 10 :: xs, x < 65536 := fun x hx => by
    simp at hx
    rcases hx with rfl | h
    · decide
    · exact hbd.out x h
  have NB3 : Hid (Ar .u16 65536 _ C3 (10 :: xs) (10 :: xs).length dd3) := Lib.hid ⟨r3, rfl, r1, r2, hb3⟩
  clear r1 r2 r3 hb3
  refine (tokR_c C3 (10 :: xs) _ dd3 _ NB3.out (by simp; omega) (HL.out.plus (by repeat' (first | exact Plus.refl _ | refine Plus.alloc ?_ _ | refine Plus.plus ?_ _ | refine Plus.drew ?_ | refine Plus.drewN ?_ _)))).mono ?_
  rintro e w1 ⟨B3, d3, rs3, rfl, m3, k3, j3, R3, t3, ⟨y3, rfl⟩⟩
  rw [T3.out] at m3 ⊢
  dsimp only at m3 ⊢
  have M3 := Lib.hid m3
  have RR3 := Lib.hid R3
  have TT3 := Lib.hid t3
  clear m3 R3 t3
  rw [Ha.out, Hb.out, He.out]
  go_wp2_with (first | (go_at_call 11; (with_reducible refine (first_c _ (Lib.hid (HL.out.plus (by repeat' (first | exact Plus.refl _ | refine Plus.alloc ?_ _ | refine Plus.plus ?_ _ | refine Plus.drew ?_ | refine Plus.drewN ?_ _))))).mono ?_); rintro e w1 ⟨rfl, ⟨y5, rfl⟩⟩))
  go_ret
  exact ⟨rfl, (by repeat' (first | exact Plus.refl _ | refine Plus.alloc ?_ _ | refine Plus.plus ?_ _ | refine Plus.drew ?_ | refine Plus.drewN ?_ _))⟩

def BkR2 (N : Nat) (s12 : Value) : Prop := ∃ k : Nat, k ≤ N ∧ s12 = .int .i64 k

set_option maxRecDepth 100000 in
set_option maxHeartbeats 32000000 in
theorem blanks_okz (A : Option Addr) (xs : List Nat) (n c : Nat) (w : World) (HL : Hid (Lai w)) (ha : Hid (Ar .u16 65536 w A xs n c)) (hn : n ≤ 4000) (d0 : decide ((4000 : Int) < (n : Int)) = false) (h0n : n = 0) (L : List Tk) (hN : 0 < L.length) (hN2 : L.length ≤ 5000) (T1 : Hid (tokM xs = ⟨L, 0, 0⟩)) (T2 : Hid (tokM (32 :: xs) = ⟨L.map (mv 1), 0, 0⟩)) (T3 : Hid (tokM (10 :: xs) = ⟨(nl1 L).map (mv 1), 0, 0⟩)) (hN5 : ∀ T ∈ L, T.a ≤ 5000) :
    Calls Tryd.prog 5 #[.slice A n c] w fun e w' => e = .returned (.bool true) ∧ Plus w w' := by
  subst h0n
  obtain ⟨i0, hi, hz0, hz1, hz2⟩ := info_parts infoU16
  have hlen := Lib.hid ha.out.len
  have hbd := Lib.hid ha.out.bd
  have hxl : xs.length ≤ 4000 := by have := ha.out.len; omega
  go_enter Tryd.func5, Tryd.ntmps5
  go_wp2_with (go_at_call 11; (with_reducible refine (first_c _ (Lib.hid (HL.out.plus (by repeat' (first | exact Plus.refl _ | refine Plus.alloc ?_ _ | refine Plus.plus ?_ _ | refine Plus.drew ?_ | refine Plus.drewN ?_ _))))).mono ?_); rintro e w1 ⟨rfl, ⟨y0, rfl⟩⟩)
  refine (tokR_c _ xs _ _ _ (ha.out.plus (by repeat' (first | exact Plus.refl _ | refine Plus.alloc ?_ _ | refine Plus.plus ?_ _ | refine Plus.drew ?_ | refine Plus.drewN ?_ _))) (by omega) (HL.out.plus (by repeat' (first | exact Plus.refl _ | refine Plus.alloc ?_ _ | refine Plus.plus ?_ _ | refine Plus.drew ?_ | refine Plus.drewN ?_ _)))).mono ?_
  rintro e w1 ⟨B1, d1, rs1, rfl, m1, k1, j1, R1, t1, ⟨y1, rfl⟩⟩
  rw [T1.out] at m1 ⊢
  dsimp only at m1 ⊢
  have M1 := Lib.hid m1
  have RR1 := Lib.hid R1
  have TT1 := Lib.hid t1
  clear m1 R1 t1
  go_wp2_with (at_builtin; refine wpList_append_rd (by rfl) _ _ 25 rfl (plus (plus w y0) y1).heap.size 40 i0 (.int .u16 0) 2 .u16 Tryd.underlying25 hi hz0 hz1 hz2 (by decide) _ [32] xs rfl (own_lit (plus (plus w y0) y1) _ 32 _ (by omega) (by simp [go_sem])) _ _ _ rfl hlen.out (ha.out.rd.plus (by repeat' (first | exact Plus.refl _ | refine Plus.alloc ?_ _ | refine Plus.plus ?_ _ | refine Plus.drew ?_ | refine Plus.drewN ?_ _))) (by simp; unfold maxLen; omega) (by simp; omega) (by simp [go_sem]) ?_; intro vv w1 hown1 hgr1; obtain ⟨z1, rfl⟩ := below_rd (own_lit (plus (plus w y0) y1) _ 32 _ (by omega) (by simp [go_sem])) ((Plus.refl _).alloc _) hgr1; have HO2 : Hid ((plus (plus (plus w y0) y1) z1).ownsRow (plus (plus w y0) y1).heap.size 40 1 vv (32 :: xs).length (vals .u16 (32 :: xs))) := Lib.hid (by rw [List.length_cons, Nat.add_comm]; exact hown1); clear hown1 hgr1)
  obtain ⟨C2, dd2, rfl, r1, r2, r3⟩ := rd_of_own HO2.out
  have hb2 : ∀ x ∈ 32 :: xs, x < 65536 := fun x hx => by
    simp at hx
    rcases hx with rfl | h
    · decide
    · exact hbd.out x h
  have NB2 : Hid (Ar .u16 65536 _ C2 (32 :: xs) (32 :: xs).length dd2) := Lib.hid ⟨r3, rfl, r1, r2, hb2⟩
  clear r1 r2 r3 hb2
  refine (tokR_c C2 (32 :: xs) _ dd2 _ NB2.out (by simp; omega) (HL.out.plus (by repeat' (first | exact Plus.refl _ | refine Plus.alloc ?_ _ | refine Plus.plus ?_ _ | refine Plus.drew ?_ | refine Plus.drewN ?_ _)))).mono ?_
  rintro e w1 ⟨B2, d2, rs2, rfl, m2, k2, j2, R2, t2, ⟨y2, rfl⟩⟩
  rw [T2.out] at m2 ⊢
  dsimp only at m2 ⊢
  have M2 := Lib.hid m2
  have RR2 := Lib.hid R2
  have TT2 := Lib.hid t2
  clear m2 R2 t2
  go_wp2_with (at_builtin; refine wpList_append_rd (by rfl) _ _ 25 rfl (plus (plus (plus (plus w y0) y1) z1) y2).heap.size 40 i0 (.int .u16 0) 2 .u16 Tryd.underlying25 hi hz0 hz1 hz2 (by decide) _ [10] xs rfl (own_lit (plus (plus (plus (plus w y0) y1) z1) y2) _ 10 _ (by omega) (by simp [go_sem])) _ _ _ rfl hlen.out (ha.out.rd.plus (by repeat' (first | exact Plus.refl _ | refine Plus.alloc ?_ _ | refine Plus.plus ?_ _ | refine Plus.drew ?_ | refine Plus.drewN ?_ _))) (by simp; unfold maxLen; omega) (by simp; omega) (by simp [go_sem]) ?_; intro vv w1 hown1 hgr1; obtain ⟨z2, rfl⟩ := below_rd (own_lit (plus (plus (plus (plus w y0) y1) z1) y2) _ 10 _ (by omega) (by simp [go_sem])) ((Plus.refl _).alloc _) hgr1; have HO3 : Hid ((plus (plus (plus (plus (plus w y0) y1) z1) y2) z2).ownsRow (plus (plus (plus (plus w y0) y1) z1) y2).heap.size 40 1 vv (10 :: xs).length (vals .u16 (10 :: xs))) := Lib.hid (by rw [List.length_cons, Nat.add_comm]; exact hown1); clear hown1 hgr1)
  obtain ⟨C3, dd3, rfl, r1, r2, r3⟩ := rd_of_own HO3.out
  have hb3 : ∀ x ∈ 10 :: xs, x < 65536 := fun x hx => by
    simp at hx
    rcases hx with rfl | h
    · decide
    · exact hbd.out x h
  have NB3 : Hid (Ar .u16 65536 _ C3 (10 :: xs) (10 :: xs).length dd3) := Lib.hid ⟨r3, rfl, r1, r2, hb3⟩
  clear r1 r2 r3 hb3
  refine (tokR_c C3 (10 :: xs) _ dd3 _ NB3.out (by simp; omega) (HL.out.plus (by repeat' (first | exact Plus.refl _ | refine Plus.alloc ?_ _ | refine Plus.plus ?_ _ | refine Plus.drew ?_ | refine Plus.drewN ?_ _)))).mono ?_
  rintro e w1 ⟨B3, d3, rs3, rfl, m3, k3, j3, R3, t3, ⟨y3, rfl⟩⟩
  rw [T3.out] at m3 ⊢
  dsimp only at m3 ⊢
  have M3 := Lib.hid m3
  have RR3 := Lib.hid R3
  have TT3 := Lib.hid t3
  clear m3 R3 t3
  have l1 : rs1.length = L.length := len_of M1.out
  have l2 : rs2.length = L.length := by rw [len_of M2.out, List.length_map]
  have l3 : rs3.length = L.length := by rw [len_of M3.out, List.length_map, nl1_len]
  have Q1 := RR1.out.plus (show Plus _ (plus (plus (plus (plus (plus (plus w y0) y1) z1) y2) z2) y3) from (by repeat' (first | exact Plus.refl _ | refine Plus.alloc ?_ _ | refine Plus.plus ?_ _ | refine Plus.drew ?_ | refine Plus.drewN ?_ _)))
  have Q2 := RR2.out.plus (show Plus _ (plus (plus (plus (plus (plus (plus w y0) y1) z1) y2) z2) y3) from (by repeat' (first | exact Plus.refl _ | refine Plus.alloc ?_ _ | refine Plus.plus ?_ _ | refine Plus.drew ?_ | refine Plus.drewN ?_ _)))
  have Q3 := RR3.out
  obtain ⟨g1, eB1, hg1, hc1⟩ := Q1 (by omega)
  obtain ⟨g2, eB2, hg2, hc2⟩ := Q2 (by omega)
  obtain ⟨g3, eB3, hg3, hc3⟩ := Q3 (by omega)
  subst eB1 eB2 eB3
  have HC1 := Lib.hid hc1
  have HC2 := Lib.hid hc2
  have HC3 := Lib.hid hc3
  have I1 : Old g1 (plus (plus (plus (plus (plus (plus w y0) y1) z1) y2) z2) y3) := ⟨hg1⟩
  have I2 : Old g2 (plus (plus (plus (plus (plus (plus w y0) y1) z1) y2) z2) y3) := ⟨hg2⟩
  have I3 : Old g3 (plus (plus (plus (plus (plus (plus w y0) y1) z1) y2) z2) y3) := ⟨hg3⟩
  have L1 := Lib.hid l1
  have L2 := Lib.hid l2
  have L3 := Lib.hid l3
  rw [l1, l2, l3]
  clear hc1 hc2 hc3 l1 l2 l3 Q1 Q2 Q3 k1 j1 k2 j2
  obtain ⟨N, hN3⟩ : ∃ N, L.length = N := ⟨_, rfl⟩
  have HN3 := Lib.hid hN3
  rw [hN3] at hN hN2 ⊢
  clear hN3
  go_wp2_with fail
  go_loopw [12] (fun s12 wr => BkR2 N s12 ∧ Plus (plus (plus (plus (plus (plus (plus w y0) y1) z1) y2) z2) y3) wr) (fun s12 _ => ((N : Int) - intOf s12).toNat)
  case atStart => exact ⟨⟨0, by omega, rfl⟩, Plus.refl _⟩
  case round =>
    obtain ⟨⟨k, hk, rfl⟩, hp⟩ := hrel
    obtain ⟨x0, rfl⟩ := hp
    by_cases hlt : k < N
    · have kL : k < L.length := by have := HN3.out; omega
      have i1 : k < rs1.length := by have := L1.out; omega
      have i2 : k < rs2.length := by have := L2.out; omega
      have i3 : k < rs3.length := by have := L3.out; omega
      have f1 : rs1[k].t = L[k] := el_of M1.out i1 (List.getElem?_eq_getElem kL)
      have f2 : rs2[k].t = mv 1 L[k] := el_of M2.out i2 (mv_get kL)
      have f3 : rs3[k].t = mv 1 { L[k] with nl := L[k].nl || decide (k = 0) } := el_of M3.out i3 (nl1_get kL)
      have t1' := TT1.out _ (List.getElem_mem i1)
      have t2' := TT2.out _ (List.getElem_mem i2)
      have t3' := TT3.out _ (List.getElem_mem i3)
      obtain ⟨⟨tk, tt, ts, tnk, tn, tb, ta, tnl⟩, hT⟩ : ∃ T, L[k] = T := ⟨_, rfl⟩
      rw [hT] at f1 f2 f3
      obtain ⟨r1, h1⟩ : ∃ r, rs1[k] = r := ⟨_, rfl⟩
      obtain ⟨r2, h2⟩ : ∃ r, rs2[k] = r := ⟨_, rfl⟩
      obtain ⟨r3, h3⟩ : ∃ r, rs3[k] = r := ⟨_, rfl⟩
      rw [h1] at f1 t1'
      rw [h2] at f2 t2'
      rw [h3] at f3 t3'
      obtain ⟨u1, As1, cs1, Am1, cm1⟩ := r1
      obtain ⟨u2, As2, cs2, Am2, cm2⟩ := r2
      obtain ⟨u3, As3, cs3, Am3, cm3⟩ := r3
      dsimp only at f1 f2 f3
      subst f1 f2 f3
      have hta : ta ≤ 5000 := by
        have q := hN5 _ (List.getElem_mem kL)
        rw [hT] at q
        exact q
      obtain ⟨za, hza⟩ : ∃ z : Int, z = (ta : Int) := ⟨_, rfl⟩
      have hza0 : 0 ≤ za := by omega
      have hza1 : za ≤ 5000 := by omega
      have cz : ((ta + 1 : Nat) : Int) = za + 1 := by omega
      have p10 : (plus (plus (plus (plus (plus (plus w y0) y1) z1) y2) z2) y3).cell? ⟨g1, k * 9, none⟩ = some (.int .i64 tk) := by have q := row_cell HC1.out (i := k) (j := 0) (by omega) (by decide); rw [h1] at q; (first | exact q | (rw [hza]; exact q))
      have p11 : (plus (plus (plus (plus (plus (plus w y0) y1) z1) y2) z2) y3).cell? ⟨g1, k * 9 + 1, none⟩ = some (.string tt) := by have q := row_cell HC1.out (i := k) (j := 1) (by omega) (by decide); rw [h1] at q; (first | exact q | (rw [hza]; exact q))
      have p12 : (plus (plus (plus (plus (plus (plus w y0) y1) z1) y2) z2) y3).cell? ⟨g1, k * 9 + 2, none⟩ = some (.slice As1 ts.length cs1) := by have q := row_cell HC1.out (i := k) (j := 2) (by omega) (by decide); rw [h1] at q; (first | exact q | (rw [hza]; exact q))
      have p13 : (plus (plus (plus (plus (plus (plus w y0) y1) z1) y2) z2) y3).cell? ⟨g1, k * 9 + 3, none⟩ = some (.int .i64 tnk) := by have q := row_cell HC1.out (i := k) (j := 3) (by omega) (by decide); rw [h1] at q; (first | exact q | (rw [hza]; exact q))
      have p14 : (plus (plus (plus (plus (plus (plus w y0) y1) z1) y2) z2) y3).cell? ⟨g1, k * 9 + 4, none⟩ = some (.int .i64 tn) := by have q := row_cell HC1.out (i := k) (j := 4) (by omega) (by decide); rw [h1] at q; (first | exact q | (rw [hza]; exact q))
      have p15 : (plus (plus (plus (plus (plus (plus w y0) y1) z1) y2) z2) y3).cell? ⟨g1, k * 9 + 5, none⟩ = some (.bool (decide (tb < 0))) := by have q := row_cell HC1.out (i := k) (j := 5) (by omega) (by decide); rw [h1] at q; (first | exact q | (rw [hza]; exact q))
      have p16 : (plus (plus (plus (plus (plus (plus w y0) y1) z1) y2) z2) y3).cell? ⟨g1, k * 9 + 6, none⟩ = some (.slice Am1 (Bg.dig tb.natAbs).length cm1) := by have q := row_cell HC1.out (i := k) (j := 6) (by omega) (by decide); rw [h1] at q; (first | exact q | (rw [hza]; exact q))
      have p17 : (plus (plus (plus (plus (plus (plus w y0) y1) z1) y2) z2) y3).cell? ⟨g1, k * 9 + 7, none⟩ = some (.int .i64 za) := by have q := row_cell HC1.out (i := k) (j := 7) (by omega) (by decide); rw [h1] at q; (first | exact q | (rw [hza]; exact q))
      have p18 : (plus (plus (plus (plus (plus (plus w y0) y1) z1) y2) z2) y3).cell? ⟨g1, k * 9 + 8, none⟩ = some (.bool tnl) := by have q := row_cell HC1.out (i := k) (j := 8) (by omega) (by decide); rw [h1] at q; (first | exact q | (rw [hza]; exact q))
      have p20 : (plus (plus (plus (plus (plus (plus w y0) y1) z1) y2) z2) y3).cell? ⟨g2, k * 9, none⟩ = some (.int .i64 tk) := by have q := row_cell HC2.out (i := k) (j := 0) (by omega) (by decide); rw [h2] at q; (first | exact q | (rw [← cz]; exact q))
      have p21 : (plus (plus (plus (plus (plus (plus w y0) y1) z1) y2) z2) y3).cell? ⟨g2, k * 9 + 1, none⟩ = some (.string tt) := by have q := row_cell HC2.out (i := k) (j := 1) (by omega) (by decide); rw [h2] at q; (first | exact q | (rw [← cz]; exact q))
      have p22 : (plus (plus (plus (plus (plus (plus w y0) y1) z1) y2) z2) y3).cell? ⟨g2, k * 9 + 2, none⟩ = some (.slice As2 ts.length cs2) := by have q := row_cell HC2.out (i := k) (j := 2) (by omega) (by decide); rw [h2] at q; (first | exact q | (rw [← cz]; exact q))
      have p23 : (plus (plus (plus (plus (plus (plus w y0) y1) z1) y2) z2) y3).cell? ⟨g2, k * 9 + 3, none⟩ = some (.int .i64 tnk) := by have q := row_cell HC2.out (i := k) (j := 3) (by omega) (by decide); rw [h2] at q; (first | exact q | (rw [← cz]; exact q))
      have p24 : (plus (plus (plus (plus (plus (plus w y0) y1) z1) y2) z2) y3).cell? ⟨g2, k * 9 + 4, none⟩ = some (.int .i64 tn) := by have q := row_cell HC2.out (i := k) (j := 4) (by omega) (by decide); rw [h2] at q; (first | exact q | (rw [← cz]; exact q))
      have p25 : (plus (plus (plus (plus (plus (plus w y0) y1) z1) y2) z2) y3).cell? ⟨g2, k * 9 + 5, none⟩ = some (.bool (decide (tb < 0))) := by have q := row_cell HC2.out (i := k) (j := 5) (by omega) (by decide); rw [h2] at q; (first | exact q | (rw [← cz]; exact q))
      have p26 : (plus (plus (plus (plus (plus (plus w y0) y1) z1) y2) z2) y3).cell? ⟨g2, k * 9 + 6, none⟩ = some (.slice Am2 (Bg.dig tb.natAbs).length cm2) := by have q := row_cell HC2.out (i := k) (j := 6) (by omega) (by decide); rw [h2] at q; (first | exact q | (rw [← cz]; exact q))
      have p27 : (plus (plus (plus (plus (plus (plus w y0) y1) z1) y2) z2) y3).cell? ⟨g2, k * 9 + 7, none⟩ = some (.int .i64 (za + 1)) := by have q := row_cell HC2.out (i := k) (j := 7) (by omega) (by decide); rw [h2] at q; (first | exact q | (rw [← cz]; exact q))
      have p28 : (plus (plus (plus (plus (plus (plus w y0) y1) z1) y2) z2) y3).cell? ⟨g2, k * 9 + 8, none⟩ = some (.bool tnl) := by have q := row_cell HC2.out (i := k) (j := 8) (by omega) (by decide); rw [h2] at q; (first | exact q | (rw [← cz]; exact q))
      have p30 : (plus (plus (plus (plus (plus (plus w y0) y1) z1) y2) z2) y3).cell? ⟨g3, k * 9, none⟩ = some (.int .i64 tk) := by have q := row_cell HC3.out (i := k) (j := 0) (by omega) (by decide); rw [h3] at q; (first | exact q | (rw [← cz]; exact q))
      have p31 : (plus (plus (plus (plus (plus (plus w y0) y1) z1) y2) z2) y3).cell? ⟨g3, k * 9 + 1, none⟩ = some (.string tt) := by have q := row_cell HC3.out (i := k) (j := 1) (by omega) (by decide); rw [h3] at q; (first | exact q | (rw [← cz]; exact q))
      have p32 : (plus (plus (plus (plus (plus (plus w y0) y1) z1) y2) z2) y3).cell? ⟨g3, k * 9 + 2, none⟩ = some (.slice As3 ts.length cs3) := by have q := row_cell HC3.out (i := k) (j := 2) (by omega) (by decide); rw [h3] at q; (first | exact q | (rw [← cz]; exact q))
      have p33 : (plus (plus (plus (plus (plus (plus w y0) y1) z1) y2) z2) y3).cell? ⟨g3, k * 9 + 3, none⟩ = some (.int .i64 tnk) := by have q := row_cell HC3.out (i := k) (j := 3) (by omega) (by decide); rw [h3] at q; (first | exact q | (rw [← cz]; exact q))
      have p34 : (plus (plus (plus (plus (plus (plus w y0) y1) z1) y2) z2) y3).cell? ⟨g3, k * 9 + 4, none⟩ = some (.int .i64 tn) := by have q := row_cell HC3.out (i := k) (j := 4) (by omega) (by decide); rw [h3] at q; (first | exact q | (rw [← cz]; exact q))
      have p35 : (plus (plus (plus (plus (plus (plus w y0) y1) z1) y2) z2) y3).cell? ⟨g3, k * 9 + 5, none⟩ = some (.bool (decide (tb < 0))) := by have q := row_cell HC3.out (i := k) (j := 5) (by omega) (by decide); rw [h3] at q; (first | exact q | (rw [← cz]; exact q))
      have p36 : (plus (plus (plus (plus (plus (plus w y0) y1) z1) y2) z2) y3).cell? ⟨g3, k * 9 + 6, none⟩ = some (.slice Am3 (Bg.dig tb.natAbs).length cm3) := by have q := row_cell HC3.out (i := k) (j := 6) (by omega) (by decide); rw [h3] at q; (first | exact q | (rw [← cz]; exact q))
      have p37 : (plus (plus (plus (plus (plus (plus w y0) y1) z1) y2) z2) y3).cell? ⟨g3, k * 9 + 7, none⟩ = some (.int .i64 (za + 1)) := by have q := row_cell HC3.out (i := k) (j := 7) (by omega) (by decide); rw [h3] at q; (first | exact q | (rw [← cz]; exact q))
      have p38 : (plus (plus (plus (plus (plus (plus w y0) y1) z1) y2) z2) y3).cell? ⟨g3, k * 9 + 8, none⟩ = some (.bool (tnl || decide (k = 0))) := by have q := row_cell HC3.out (i := k) (j := 8) (by omega) (by decide); rw [h3] at q; (first | exact q | (rw [← cz]; exact q))

      have K1 : Hid (TkM (plus (plus (plus (plus (plus (plus w y0) y1) z1) y2) z2) y3) ts tb As1 cs1 Am1 cm1) := Lib.hid (TkM.plus t1' (by repeat' (first | exact Plus.refl _ | refine Plus.alloc ?_ _ | refine Plus.plus ?_ _ | refine Plus.drew ?_ | refine Plus.drewN ?_ _)))
      have K2 : Hid (TkM (plus (plus (plus (plus (plus (plus w y0) y1) z1) y2) z2) y3) ts tb As2 cs2 Am2 cm2) := Lib.hid (TkM.plus t2' (by repeat' (first | exact Plus.refl _ | refine Plus.alloc ?_ _ | refine Plus.plus ?_ _ | refine Plus.drew ?_ | refine Plus.drewN ?_ _)))
      have K3 : Hid (TkM (plus (plus (plus (plus (plus (plus w y0) y1) z1) y2) z2) y3) ts tb As3 cs3 Am3 cm3) := Lib.hid (TkM.plus t3' (by repeat' (first | exact Plus.refl _ | refine Plus.alloc ?_ _ | refine Plus.plus ?_ _ | refine Plus.drew ?_ | refine Plus.drewN ?_ _)))
      clear t1' t2' t3' h1 h2 h3 hT hta hza cz i1 i2 i3 kL
      have hcs : tnl = true ∧ (tnl || decide (k = 0)) = true ∨ tnl = false ∧ ((k : Int) == 0) = true ∧ (tnl || decide (k = 0)) = true ∨ tnl = false ∧ ((k : Int) == 0) = false ∧ (tnl || decide (k = 0)) = false := by
        cases tnl
        · by_cases k0 : k = 0
          · right; left; simp [k0]
          · right; right; simp [k0]
        · left; simp
      rcases hcs with ⟨rfl, b2⟩ | ⟨rfl, b1, b2⟩ | ⟨rfl, b1, b2⟩
      all_goals
        rw [b2] at p38
        clear b2
        go_wp2_with fail
        refine wp_region_plus (by kernel_rfl) (by kernel_rfl) ?_
        repeat (go_big_quiet_step ((first | (go_at_call 21; with_reducible exact calls_plus (rtok_z tk tnk tn tb (za + 1) tt ts (decide (tb < 0)) true As2 As1 cs2 cs1 Am2 Am1 cm2 cm1 _ (K2.out.plus (by repeat' (first | exact Plus.refl _ | refine Plus.alloc ?_ _ | refine Plus.plus ?_ _ | refine Plus.drew ?_ | refine Plus.drewN ?_ _))) (K1.out.plus (by repeat' (first | exact Plus.refl _ | refine Plus.alloc ?_ _ | refine Plus.plus ?_ _ | refine Plus.drew ?_ | refine Plus.drewN ?_ _))))) | (go_at_call 21; with_reducible exact calls_plus (rtok_z tk tnk tn tb (za + 1) tt ts (decide (tb < 0)) false As2 As1 cs2 cs1 Am2 Am1 cm2 cm1 _ (K2.out.plus (by repeat' (first | exact Plus.refl _ | refine Plus.alloc ?_ _ | refine Plus.plus ?_ _ | refine Plus.drew ?_ | refine Plus.drewN ?_ _))) (K1.out.plus (by repeat' (first | exact Plus.refl _ | refine Plus.alloc ?_ _ | refine Plus.plus ?_ _ | refine Plus.drew ?_ | refine Plus.drewN ?_ _))))) | (go_at_call 21; with_reducible exact calls_plus (rtok_z tk tnk tn tb (za + 1) tt ts (decide (tb < 0)) true As3 As1 cs3 cs1 Am3 Am1 cm3 cm1 _ (K3.out.plus (by repeat' (first | exact Plus.refl _ | refine Plus.alloc ?_ _ | refine Plus.plus ?_ _ | refine Plus.drew ?_ | refine Plus.drewN ?_ _))) (K1.out.plus (by repeat' (first | exact Plus.refl _ | refine Plus.alloc ?_ _ | refine Plus.plus ?_ _ | refine Plus.drew ?_ | refine Plus.drewN ?_ _))))) | (go_at_call 21; with_reducible exact calls_plus (rtok_z tk tnk tn tb (za + 1) tt ts (decide (tb < 0)) false As3 As1 cs3 cs1 Am3 Am1 cm3 cm1 _ (K3.out.plus (by repeat' (first | exact Plus.refl _ | refine Plus.alloc ?_ _ | refine Plus.plus ?_ _ | refine Plus.drew ?_ | refine Plus.drewN ?_ _))) (K1.out.plus (by repeat' (first | exact Plus.refl _ | refine Plus.alloc ?_ _ | refine Plus.plus ?_ _ | refine Plus.drew ?_ | refine Plus.drewN ?_ _))))))))
        refine wpQuiet_nil ?_
        intro _ hw'
        obtain ⟨x9, rfl⟩ := hw'
        go_wp2_with fail
        go_roundw
        case rel => exact ⟨⟨k + 1, hlt, by rw [show ((k + 1 : Nat) : Int) = (k : Int) + 1 by omega]⟩, (by repeat' (first | exact Plus.refl _ | refine Plus.alloc ?_ _ | refine Plus.plus ?_ _ | refine Plus.drew ?_ | refine Plus.drewN ?_ _))⟩
        case measure => simp [intOf]; omega
    · obtain rfl : k = N := by omega
      go_wp2_with (first | (go_at_call 11; (with_reducible refine (first_c _ (Lib.hid (HL.out.plus (by repeat' (first | exact Plus.refl _ | refine Plus.alloc ?_ _ | refine Plus.plus ?_ _ | refine Plus.drew ?_ | refine Plus.drewN ?_ _))))).mono ?_); rintro e w1 ⟨rfl, ⟨y5, rfl⟩⟩))
      go_ret
      exact ⟨rfl, (by repeat' (first | exact Plus.refl _ | refine Plus.alloc ?_ _ | refine Plus.plus ?_ _ | refine Plus.drew ?_ | refine Plus.drewN ?_ _))⟩

set_option maxRecDepth 100000 in
set_option maxHeartbeats 32000000 in
theorem blanks_okp (A : Option Addr) (xs : List Nat) (n c : Nat) (w : World) (HL : Hid (Lai w)) (ha : Hid (Ar .u16 65536 w A xs n c)) (hn : n ≤ 4000) (d0 : decide ((4000 : Int) < (n : Int)) = false) (g o v : Nat) (h0n : 0 < n) (hA : A = some ⟨g, o, none⟩) (I0 : Old g w) (hv0 : w.cell? ⟨g, o, none⟩ = some (.int .u16 (v : Nat))) (h35 : ((v : Int) == 35) = false) (L : List Tk) (hN : 0 < L.length) (hN2 : L.length ≤ 5000) (T1 : Hid (tokM xs = ⟨L, 0, 0⟩)) (T2 : Hid (tokM (32 :: xs) = ⟨L.map (mv 1), 0, 0⟩)) (T3 : Hid (tokM (10 :: xs) = ⟨(nl1 L).map (mv 1), 0, 0⟩)) (hN5 : ∀ T ∈ L, T.a ≤ 5000) :
    Calls Tryd.prog 5 #[.slice A n c] w fun e w' => e = .returned (.bool true) ∧ Plus w w' := by
  subst hA
  obtain ⟨i0, hi, hz0, hz1, hz2⟩ := info_parts infoU16
  have hlen := Lib.hid ha.out.len
  have hbd := Lib.hid ha.out.bd
  have hxl : xs.length ≤ 4000 := by have := ha.out.len; omega
  go_enter Tryd.func5, Tryd.ntmps5
  go_wp2_with (go_at_call 11; (with_reducible refine (first_c _ (Lib.hid (HL.out.plus (by repeat' (first | exact Plus.refl _ | refine Plus.alloc ?_ _ | refine Plus.plus ?_ _ | refine Plus.drew ?_ | refine Plus.drewN ?_ _))))).mono ?_); rintro e w1 ⟨rfl, ⟨y0, rfl⟩⟩)
  refine (tokR_c _ xs _ _ _ (ha.out.plus (by repeat' (first | exact Plus.refl _ | refine Plus.alloc ?_ _ | refine Plus.plus ?_ _ | refine Plus.drew ?_ | refine Plus.drewN ?_ _))) (by omega) (HL.out.plus (by repeat' (first | exact Plus.refl _ | refine Plus.alloc ?_ _ | refine Plus.plus ?_ _ | refine Plus.drew ?_ | refine Plus.drewN ?_ _)))).mono ?_
  rintro e w1 ⟨B1, d1, rs1, rfl, m1, k1, j1, R1, t1, ⟨y1, rfl⟩⟩
  rw [T1.out] at m1 ⊢
  dsimp only at m1 ⊢
  have M1 := Lib.hid m1
  have RR1 := Lib.hid R1
  have TT1 := Lib.hid t1
  clear m1 R1 t1
  go_wp2_with (at_builtin; refine wpList_append_rd (by rfl) _ _ 25 rfl (plus (plus w y0) y1).heap.size 40 i0 (.int .u16 0) 2 .u16 Tryd.underlying25 hi hz0 hz1 hz2 (by decide) _ [32] xs rfl (own_lit (plus (plus w y0) y1) _ 32 _ (by omega) (by simp [go_sem])) _ _ _ rfl hlen.out (ha.out.rd.plus (by repeat' (first | exact Plus.refl _ | refine Plus.alloc ?_ _ | refine Plus.plus ?_ _ | refine Plus.drew ?_ | refine Plus.drewN ?_ _))) (by simp; unfold maxLen; omega) (by simp; omega) (by simp [go_sem]) ?_; intro vv w1 hown1 hgr1; obtain ⟨z1, rfl⟩ := below_rd (own_lit (plus (plus w y0) y1) _ 32 _ (by omega) (by simp [go_sem])) ((Plus.refl _).alloc _) hgr1; have HO2 : Hid ((plus (plus (plus w y0) y1) z1).ownsRow (plus (plus w y0) y1).heap.size 40 1 vv (32 :: xs).length (vals .u16 (32 :: xs))) := Lib.hid (by rw [List.length_cons, Nat.add_comm]; exact hown1); clear hown1 hgr1)
  obtain ⟨C2, dd2, rfl, r1, r2, r3⟩ := rd_of_own HO2.out
  have hb2 : ∀ x ∈ 32 :: xs, x < 65536 := fun x hx => by
    simp at hx
    rcases hx with rfl | h
    · decide
    · exact hbd.out x h
  have NB2 : Hid (Ar .u16 65536 _ C2 (32 :: xs) (32 :: xs).length dd2) := Lib.hid ⟨r3, rfl, r1, r2, hb2⟩
  clear r1 r2 r3 hb2
  refine (tokR_c C2 (32 :: xs) _ dd2 _ NB2.out (by simp; omega) (HL.out.plus (by repeat' (first | exact Plus.refl _ | refine Plus.alloc ?_ _ | refine Plus.plus ?_ _ | refine Plus.drew ?_ | refine Plus.drewN ?_ _)))).mono ?_
  rintro e w1 ⟨B2, d2, rs2, rfl, m2, k2, j2, R2, t2, ⟨y2, rfl⟩⟩
  rw [T2.out] at m2 ⊢
  dsimp only at m2 ⊢
  have M2 := Lib.hid m2
  have RR2 := Lib.hid R2
  have TT2 := Lib.hid t2
  clear m2 R2 t2
  go_wp2_with (at_builtin; refine wpList_append_rd (by rfl) _ _ 25 rfl (plus (plus (plus (plus w y0) y1) z1) y2).heap.size 40 i0 (.int .u16 0) 2 .u16 Tryd.underlying25 hi hz0 hz1 hz2 (by decide) _ [10] xs rfl (own_lit (plus (plus (plus (plus w y0) y1) z1) y2) _ 10 _ (by omega) (by simp [go_sem])) _ _ _ rfl hlen.out (ha.out.rd.plus (by repeat' (first | exact Plus.refl _ | refine Plus.alloc ?_ _ | refine Plus.plus ?_ _ | refine Plus.drew ?_ | refine Plus.drewN ?_ _))) (by simp; unfold maxLen; omega) (by simp; omega) (by simp [go_sem]) ?_; intro vv w1 hown1 hgr1; obtain ⟨z2, rfl⟩ := below_rd (own_lit (plus (plus (plus (plus w y0) y1) z1) y2) _ 10 _ (by omega) (by simp [go_sem])) ((Plus.refl _).alloc _) hgr1; have HO3 : Hid ((plus (plus (plus (plus (plus w y0) y1) z1) y2) z2).ownsRow (plus (plus (plus (plus w y0) y1) z1) y2).heap.size 40 1 vv (10 :: xs).length (vals .u16 (10 :: xs))) := Lib.hid (by rw [List.length_cons, Nat.add_comm]; exact hown1); clear hown1 hgr1)
  obtain ⟨C3, dd3, rfl, r1, r2, r3⟩ := rd_of_own HO3.out
  have hb3 : ∀ x ∈ 10 :: xs, x < 65536 := fun x hx => by
    simp at hx
    rcases hx with rfl | h
    · decide
    · exact hbd.out x h
  have NB3 : Hid (Ar .u16 65536 _ C3 (10 :: xs) (10 :: xs).length dd3) := Lib.hid ⟨r3, rfl, r1, r2, hb3⟩
  clear r1 r2 r3 hb3
  refine (tokR_c C3 (10 :: xs) _ dd3 _ NB3.out (by simp; omega) (HL.out.plus (by repeat' (first | exact Plus.refl _ | refine Plus.alloc ?_ _ | refine Plus.plus ?_ _ | refine Plus.drew ?_ | refine Plus.drewN ?_ _)))).mono ?_
  rintro e w1 ⟨B3, d3, rs3, rfl, m3, k3, j3, R3, t3, ⟨y3, rfl⟩⟩
  rw [T3.out] at m3 ⊢
  dsimp only at m3 ⊢
  have M3 := Lib.hid m3
  have RR3 := Lib.hid R3
  have TT3 := Lib.hid t3
  clear m3 R3 t3
  have l1 : rs1.length = L.length := len_of M1.out
  have l2 : rs2.length = L.length := by rw [len_of M2.out, List.length_map]
  have l3 : rs3.length = L.length := by rw [len_of M3.out, List.length_map, nl1_len]
  have Q1 := RR1.out.plus (show Plus _ (plus (plus (plus (plus (plus (plus w y0) y1) z1) y2) z2) y3) from (by repeat' (first | exact Plus.refl _ | refine Plus.alloc ?_ _ | refine Plus.plus ?_ _ | refine Plus.drew ?_ | refine Plus.drewN ?_ _)))
  have Q2 := RR2.out.plus (show Plus _ (plus (plus (plus (plus (plus (plus w y0) y1) z1) y2) z2) y3) from (by repeat' (first | exact Plus.refl _ | refine Plus.alloc ?_ _ | refine Plus.plus ?_ _ | refine Plus.drew ?_ | refine Plus.drewN ?_ _)))
  have Q3 := RR3.out
  obtain ⟨g1, eB1, hg1, hc1⟩ := Q1 (by omega)
  obtain ⟨g2, eB2, hg2, hc2⟩ := Q2 (by omega)
  obtain ⟨g3, eB3, hg3, hc3⟩ := Q3 (by omega)
  subst eB1 eB2 eB3
  have HC1 := Lib.hid hc1
  have HC2 := Lib.hid hc2
  have HC3 := Lib.hid hc3
  have I1 : Old g1 (plus (plus (plus (plus (plus (plus w y0) y1) z1) y2) z2) y3) := ⟨hg1⟩
  have I2 : Old g2 (plus (plus (plus (plus (plus (plus w y0) y1) z1) y2) z2) y3) := ⟨hg2⟩
  have I3 : Old g3 (plus (plus (plus (plus (plus (plus w y0) y1) z1) y2) z2) y3) := ⟨hg3⟩
  have L1 := Lib.hid l1
  have L2 := Lib.hid l2
  have L3 := Lib.hid l3
  rw [l1, l2, l3]
  clear hc1 hc2 hc3 l1 l2 l3 Q1 Q2 Q3 k1 j1 k2 j2
  obtain ⟨N, hN3⟩ : ∃ N, L.length = N := ⟨_, rfl⟩
  have HN3 := Lib.hid hN3
  rw [hN3] at hN hN2 ⊢
  clear hN3
  go_wp2_with fail
  go_loopw [12] (fun s12 wr => BkR2 N s12 ∧ Plus (plus (plus (plus (plus (plus (plus w y0) y1) z1) y2) z2) y3) wr) (fun s12 _ => ((N : Int) - intOf s12).toNat)
  case atStart => exact ⟨⟨0, by omega, rfl⟩, Plus.refl _⟩
  case round =>
    obtain ⟨⟨k, hk, rfl⟩, hp⟩ := hrel
    obtain ⟨x0, rfl⟩ := hp
    by_cases hlt : k < N
    · have kL : k < L.length := by have := HN3.out; omega
      have i1 : k < rs1.length := by have := L1.out; omega
      have i2 : k < rs2.length := by have := L2.out; omega
      have i3 : k < rs3.length := by have := L3.out; omega
      have f1 : rs1[k].t = L[k] := el_of M1.out i1 (List.getElem?_eq_getElem kL)
      have f2 : rs2[k].t = mv 1 L[k] := el_of M2.out i2 (mv_get kL)
      have f3 : rs3[k].t = mv 1 { L[k] with nl := L[k].nl || decide (k = 0) } := el_of M3.out i3 (nl1_get kL)
      have t1' := TT1.out _ (List.getElem_mem i1)
      have t2' := TT2.out _ (List.getElem_mem i2)
      have t3' := TT3.out _ (List.getElem_mem i3)
      obtain ⟨⟨tk, tt, ts, tnk, tn, tb, ta, tnl⟩, hT⟩ : ∃ T, L[k] = T := ⟨_, rfl⟩
      rw [hT] at f1 f2 f3
      obtain ⟨r1, h1⟩ : ∃ r, rs1[k] = r := ⟨_, rfl⟩
      obtain ⟨r2, h2⟩ : ∃ r, rs2[k] = r := ⟨_, rfl⟩
      obtain ⟨r3, h3⟩ : ∃ r, rs3[k] = r := ⟨_, rfl⟩
      rw [h1] at f1 t1'
      rw [h2] at f2 t2'
      rw [h3] at f3 t3'
      obtain ⟨u1, As1, cs1, Am1, cm1⟩ := r1
      obtain ⟨u2, As2, cs2, Am2, cm2⟩ := r2
      obtain ⟨u3, As3, cs3, Am3, cm3⟩ := r3
      dsimp only at f1 f2 f3
      subst f1 f2 f3
      have hta : ta ≤ 5000 := by
        have q := hN5 _ (List.getElem_mem kL)
        rw [hT] at q
        exact q
      obtain ⟨za, hza⟩ : ∃ z : Int, z = (ta : Int) := ⟨_, rfl⟩
      have hza0 : 0 ≤ za := by omega
      have hza1 : za ≤ 5000 := by omega
      have cz : ((ta + 1 : Nat) : Int) = za + 1 := by omega
      have p10 : (plus (plus (plus (plus (plus (plus w y0) y1) z1) y2) z2) y3).cell? ⟨g1, k * 9, none⟩ = some (.int .i64 tk) := by have q := row_cell HC1.out (i := k) (j := 0) (by omega) (by decide); rw [h1] at q; (first | exact q | (rw [hza]; exact q))
      have p11 : (plus (plus (plus (plus (plus (plus w y0) y1) z1) y2) z2) y3).cell? ⟨g1, k * 9 + 1, none⟩ = some (.string tt) := by have q := row_cell HC1.out (i := k) (j := 1) (by omega) (by decide); rw [h1] at q; (first | exact q | (rw [hza]; exact q))
      have p12 : (plus (plus (plus (plus (plus (plus w y0) y1) z1) y2) z2) y3).cell? ⟨g1, k * 9 + 2, none⟩ = some (.slice As1 ts.length cs1) := by have q := row_cell HC1.out (i := k) (j := 2) (by omega) (by decide); rw [h1] at q; (first | exact q | (rw [hza]; exact q))
      have p13 : (plus (plus (plus (plus (plus (plus w y0) y1) z1) y2) z2) y3).cell? ⟨g1, k * 9 + 3, none⟩ = some (.int .i64 tnk) := by have q := row_cell HC1.out (i := k) (j := 3) (by omega) (by decide); rw [h1] at q; (first | exact q | (rw [hza]; exact q))
      have p14 : (plus (plus (plus (plus (plus (plus w y0) y1) z1) y2) z2) y3).cell? ⟨g1, k * 9 + 4, none⟩ = some (.int .i64 tn) := by have q := row_cell HC1.out (i := k) (j := 4) (by omega) (by decide); rw [h1] at q; (first | exact q | (rw [hza]; exact q))
      have p15 : (plus (plus (plus (plus (plus (plus w y0) y1) z1) y2) z2) y3).cell? ⟨g1, k * 9 + 5, none⟩ = some (.bool (decide (tb < 0))) := by have q := row_cell HC1.out (i := k) (j := 5) (by omega) (by decide); rw [h1] at q; (first | exact q | (rw [hza]; exact q))
      have p16 : (plus (plus (plus (plus (plus (plus w y0) y1) z1) y2) z2) y3).cell? ⟨g1, k * 9 + 6, none⟩ = some (.slice Am1 (Bg.dig tb.natAbs).length cm1) := by have q := row_cell HC1.out (i := k) (j := 6) (by omega) (by decide); rw [h1] at q; (first | exact q | (rw [hza]; exact q))
      have p17 : (plus (plus (plus (plus (plus (plus w y0) y1) z1) y2) z2) y3).cell? ⟨g1, k * 9 + 7, none⟩ = some (.int .i64 za) := by have q := row_cell HC1.out (i := k) (j := 7) (by omega) (by decide); rw [h1] at q; (first | exact q | (rw [hza]; exact q))
      have p18 : (plus (plus (plus (plus (plus (plus w y0) y1) z1) y2) z2) y3).cell? ⟨g1, k * 9 + 8, none⟩ = some (.bool tnl) := by have q := row_cell HC1.out (i := k) (j := 8) (by omega) (by decide); rw [h1] at q; (first | exact q | (rw [hza]; exact q))
      have p20 : (plus (plus (plus (plus (plus (plus w y0) y1) z1) y2) z2) y3).cell? ⟨g2, k * 9, none⟩ = some (.int .i64 tk) := by have q := row_cell HC2.out (i := k) (j := 0) (by omega) (by decide); rw [h2] at q; (first | exact q | (rw [← cz]; exact q))
      have p21 : (plus (plus (plus (plus (plus (plus w y0) y1) z1) y2) z2) y3).cell? ⟨g2, k * 9 + 1, none⟩ = some (.string tt) := by have q := row_cell HC2.out (i := k) (j := 1) (by omega) (by decide); rw [h2] at q; (first | exact q | (rw [← cz]; exact q))
      have p22 : (plus (plus (plus (plus (plus (plus w y0) y1) z1) y2) z2) y3).cell? ⟨g2, k * 9 + 2, none⟩ = some (.slice As2 ts.length cs2) := by have q := row_cell HC2.out (i := k) (j := 2) (by omega) (by decide); rw [h2] at q; (first | exact q | (rw [← cz]; exact q))
      have p23 : (plus (plus (plus (plus (plus (plus w y0) y1) z1) y2) z2) y3).cell? ⟨g2, k * 9 + 3, none⟩ = some (.int .i64 tnk) := by have q := row_cell HC2.out (i := k) (j := 3) (by omega) (by decide); rw [h2] at q; (first | exact q | (rw [← cz]; exact q))
      have p24 : (plus (plus (plus (plus (plus (plus w y0) y1) z1) y2) z2) y3).cell? ⟨g2, k * 9 + 4, none⟩ = some (.int .i64 tn) := by have q := row_cell HC2.out (i := k) (j := 4) (by omega) (by decide); rw [h2] at q; (first | exact q | (rw [← cz]; exact q))
      have p25 : (plus (plus (plus (plus (plus (plus w y0) y1) z1) y2) z2) y3).cell? ⟨g2, k * 9 + 5, none⟩ = some (.bool (decide (tb < 0))) := by have q := row_cell HC2.out (i := k) (j := 5) (by omega) (by decide); rw [h2] at q; (first | exact q | (rw [← cz]; exact q))
      have p26 : (plus (plus (plus (plus (plus (plus w y0) y1) z1) y2) z2) y3).cell? ⟨g2, k * 9 + 6, none⟩ = some (.slice Am2 (Bg.dig tb.natAbs).length cm2) := by have q := row_cell HC2.out (i := k) (j := 6) (by omega) (by decide); rw [h2] at q; (first | exact q | (rw [← cz]; exact q))
      have p27 : (plus (plus (plus (plus (plus (plus w y0) y1) z1) y2) z2) y3).cell? ⟨g2, k * 9 + 7, none⟩ = some (.int .i64 (za + 1)) := by have q := row_cell HC2.out (i := k) (j := 7) (by omega) (by decide); rw [h2] at q; (first | exact q | (rw [← cz]; exact q))
      have p28 : (plus (plus (plus (plus (plus (plus w y0) y1) z1) y2) z2) y3).cell? ⟨g2, k * 9 + 8, none⟩ = some (.bool tnl) := by have q := row_cell HC2.out (i := k) (j := 8) (by omega) (by decide); rw [h2] at q; (first | exact q | (rw [← cz]; exact q))
      have p30 : (plus (plus (plus (plus (plus (plus w y0) y1) z1) y2) z2) y3).cell? ⟨g3, k * 9, none⟩ = some (.int .i64 tk) := by have q := row_cell HC3.out (i := k) (j := 0) (by omega) (by decide); rw [h3] at q; (first | exact q | (rw [← cz]; exact q))
      have p31 : (plus (plus (plus (plus (plus (plus w y0) y1) z1) y2) z2) y3).cell? ⟨g3, k * 9 + 1, none⟩ = some (.string tt) := by have q := row_cell HC3.out (i := k) (j := 1) (by omega) (by decide); rw [h3] at q; (first | exact q | (rw [← cz]; exact q))
      have p32 : (plus (plus (plus (plus (plus (plus w y0) y1) z1) y2) z2) y3).cell? ⟨g3, k * 9 + 2, none⟩ = some (.slice As3 ts.length cs3) := by have q := row_cell HC3.out (i := k) (j := 2) (by omega) (by decide); rw [h3] at q; (first | exact q | (rw [← cz]; exact q))
      have p33 : (plus (plus (plus (plus (plus (plus w y0) y1) z1) y2) z2) y3).cell? ⟨g3, k * 9 + 3, none⟩ = some (.int .i64 tnk) := by have q := row_cell HC3.out (i := k) (j := 3) (by omega) (by decide); rw [h3] at q; (first | exact q | (rw [← cz]; exact q))
      have p34 : (plus (plus (plus (plus (plus (plus w y0) y1) z1) y2) z2) y3).cell? ⟨g3, k * 9 + 4, none⟩ = some (.int .i64 tn) := by have q := row_cell HC3.out (i := k) (j := 4) (by omega) (by decide); rw [h3] at q; (first | exact q | (rw [← cz]; exact q))
      have p35 : (plus (plus (plus (plus (plus (plus w y0) y1) z1) y2) z2) y3).cell? ⟨g3, k * 9 + 5, none⟩ = some (.bool (decide (tb < 0))) := by have q := row_cell HC3.out (i := k) (j := 5) (by omega) (by decide); rw [h3] at q; (first | exact q | (rw [← cz]; exact q))
      have p36 : (plus (plus (plus (plus (plus (plus w y0) y1) z1) y2) z2) y3).cell? ⟨g3, k * 9 + 6, none⟩ = some (.slice Am3 (Bg.dig tb.natAbs).length cm3) := by have q := row_cell HC3.out (i := k) (j := 6) (by omega) (by decide); rw [h3] at q; (first | exact q | (rw [← cz]; exact q))
      have p37 : (plus (plus (plus (plus (plus (plus w y0) y1) z1) y2) z2) y3).cell? ⟨g3, k * 9 + 7, none⟩ = some (.int .i64 (za + 1)) := by have q := row_cell HC3.out (i := k) (j := 7) (by omega) (by decide); rw [h3] at q; (first | exact q | (rw [← cz]; exact q))
      have p38 : (plus (plus (plus (plus (plus (plus w y0) y1) z1) y2) z2) y3).cell? ⟨g3, k * 9 + 8, none⟩ = some (.bool (tnl || decide (k = 0))) := by have q := row_cell HC3.out (i := k) (j := 8) (by omega) (by decide); rw [h3] at q; (first | exact q | (rw [← cz]; exact q))

      have K1 : Hid (TkM (plus (plus (plus (plus (plus (plus w y0) y1) z1) y2) z2) y3) ts tb As1 cs1 Am1 cm1) := Lib.hid (TkM.plus t1' (by repeat' (first | exact Plus.refl _ | refine Plus.alloc ?_ _ | refine Plus.plus ?_ _ | refine Plus.drew ?_ | refine Plus.drewN ?_ _)))
      have K2 : Hid (TkM (plus (plus (plus (plus (plus (plus w y0) y1) z1) y2) z2) y3) ts tb As2 cs2 Am2 cm2) := Lib.hid (TkM.plus t2' (by repeat' (first | exact Plus.refl _ | refine Plus.alloc ?_ _ | refine Plus.plus ?_ _ | refine Plus.drew ?_ | refine Plus.drewN ?_ _)))
      have K3 : Hid (TkM (plus (plus (plus (plus (plus (plus w y0) y1) z1) y2) z2) y3) ts tb As3 cs3 Am3 cm3) := Lib.hid (TkM.plus t3' (by repeat' (first | exact Plus.refl _ | refine Plus.alloc ?_ _ | refine Plus.plus ?_ _ | refine Plus.drew ?_ | refine Plus.drewN ?_ _)))
      clear t1' t2' t3' h1 h2 h3 hT hta hza cz i1 i2 i3 kL
      have hcs : tnl = true ∧ (tnl || decide (k = 0)) = true ∨ tnl = false ∧ ((k : Int) == 0) = true ∧ (tnl || decide (k = 0)) = true ∨ tnl = false ∧ ((k : Int) == 0) = false ∧ (tnl || decide (k = 0)) = false := by
        cases tnl
        · by_cases k0 : k = 0
          · right; left; simp [k0]
          · right; right; simp [k0]
        · left; simp
      rcases hcs with ⟨rfl, b2⟩ | ⟨rfl, b1, b2⟩ | ⟨rfl, b1, b2⟩
      all_goals
        rw [b2] at p38
        clear b2
        go_wp2_with fail
        refine wp_region_plus (by kernel_rfl) (by kernel_rfl) ?_
        repeat (go_big_quiet_step ((first | (go_at_call 21; with_reducible exact calls_plus (rtok_z tk tnk tn tb (za + 1) tt ts (decide (tb < 0)) true As2 As1 cs2 cs1 Am2 Am1 cm2 cm1 _ (K2.out.plus (by repeat' (first | exact Plus.refl _ | refine Plus.alloc ?_ _ | refine Plus.plus ?_ _ | refine Plus.drew ?_ | refine Plus.drewN ?_ _))) (K1.out.plus (by repeat' (first | exact Plus.refl _ | refine Plus.alloc ?_ _ | refine Plus.plus ?_ _ | refine Plus.drew ?_ | refine Plus.drewN ?_ _))))) | (go_at_call 21; with_reducible exact calls_plus (rtok_z tk tnk tn tb (za + 1) tt ts (decide (tb < 0)) false As2 As1 cs2 cs1 Am2 Am1 cm2 cm1 _ (K2.out.plus (by repeat' (first | exact Plus.refl _ | refine Plus.alloc ?_ _ | refine Plus.plus ?_ _ | refine Plus.drew ?_ | refine Plus.drewN ?_ _))) (K1.out.plus (by repeat' (first | exact Plus.refl _ | refine Plus.alloc ?_ _ | refine Plus.plus ?_ _ | refine Plus.drew ?_ | refine Plus.drewN ?_ _))))) | (go_at_call 21; with_reducible exact calls_plus (rtok_z tk tnk tn tb (za + 1) tt ts (decide (tb < 0)) true As3 As1 cs3 cs1 Am3 Am1 cm3 cm1 _ (K3.out.plus (by repeat' (first | exact Plus.refl _ | refine Plus.alloc ?_ _ | refine Plus.plus ?_ _ | refine Plus.drew ?_ | refine Plus.drewN ?_ _))) (K1.out.plus (by repeat' (first | exact Plus.refl _ | refine Plus.alloc ?_ _ | refine Plus.plus ?_ _ | refine Plus.drew ?_ | refine Plus.drewN ?_ _))))) | (go_at_call 21; with_reducible exact calls_plus (rtok_z tk tnk tn tb (za + 1) tt ts (decide (tb < 0)) false As3 As1 cs3 cs1 Am3 Am1 cm3 cm1 _ (K3.out.plus (by repeat' (first | exact Plus.refl _ | refine Plus.alloc ?_ _ | refine Plus.plus ?_ _ | refine Plus.drew ?_ | refine Plus.drewN ?_ _))) (K1.out.plus (by repeat' (first | exact Plus.refl _ | refine Plus.alloc ?_ _ | refine Plus.plus ?_ _ | refine Plus.drew ?_ | refine Plus.drewN ?_ _))))))))
        refine wpQuiet_nil ?_
        intro _ hw'
        obtain ⟨x9, rfl⟩ := hw'
        go_wp2_with fail
        go_roundw
        case rel => exact ⟨⟨k + 1, hlt, by rw [show ((k + 1 : Nat) : Int) = (k : Int) + 1 by omega]⟩, (by repeat' (first | exact Plus.refl _ | refine Plus.alloc ?_ _ | refine Plus.plus ?_ _ | refine Plus.drew ?_ | refine Plus.drewN ?_ _))⟩
        case measure => simp [intOf]; omega
    · obtain rfl : k = N := by omega
      go_wp2_with (first | (go_at_call 11; (with_reducible refine (first_c _ (Lib.hid (HL.out.plus (by repeat' (first | exact Plus.refl _ | refine Plus.alloc ?_ _ | refine Plus.plus ?_ _ | refine Plus.drew ?_ | refine Plus.drewN ?_ _))))).mono ?_); rintro e w1 ⟨rfl, ⟨y5, rfl⟩⟩))
      go_ret
      exact ⟨rfl, (by repeat' (first | exact Plus.refl _ | refine Plus.alloc ?_ _ | refine Plus.plus ?_ _ | refine Plus.drew ?_ | refine Plus.drewN ?_ _))⟩

set_option maxRecDepth 100000 in
set_option maxHeartbeats 4000000 in
theorem blanks_few (A : Option Addr) (n c : Nat) (w : World) (HL : Hid (Lai w)) (d0 : decide ((4000 : Int) < (n : Int)) = true) : Calls Tryd.prog 5 #[.slice A n c] w fun e w' => e = .returned (.bool true) ∧ Plus w w' := by
  go_enter Tryd.func5, Tryd.ntmps5
  go_wp2_with (go_at_call 11; (with_reducible refine (first_c _ (Lib.hid (HL.out.plus (by repeat' (first | exact Plus.refl _ | refine Plus.alloc ?_ _ | refine Plus.plus ?_ _ | refine Plus.drew ?_ | refine Plus.drewN ?_ _))))).mono ?_); rintro e w1 ⟨rfl, ⟨y0, rfl⟩⟩)
  go_ret
  exact ⟨rfl, (by repeat' (first | exact Plus.refl _ | refine Plus.alloc ?_ _ | refine Plus.plus ?_ _ | refine Plus.drew ?_ | refine Plus.drewN ?_ _))⟩
set_option maxRecDepth 100000 in
set_option maxHeartbeats 4000000 in
theorem blanks_35 (g o v n c : Nat) (w : World) (HL : Hid (Lai w)) (d0 : decide ((4000 : Int) < (n : Int)) = false) (h0n : 0 < n) (I0 : Old g w) (hv0 : w.cell? ⟨g, o, none⟩ = some (.int .u16 (v : Nat))) (h35 : ((v : Int) == 35) = true) : Calls Tryd.prog 5 #[.slice (some ⟨g, o, none⟩) n c] w fun e w' => e = .returned (.bool true) ∧ Plus w w' := by
  go_enter Tryd.func5, Tryd.ntmps5
  go_wp2_with (go_at_call 11; (with_reducible refine (first_c _ (Lib.hid (HL.out.plus (by repeat' (first | exact Plus.refl _ | refine Plus.alloc ?_ _ | refine Plus.plus ?_ _ | refine Plus.drew ?_ | refine Plus.drewN ?_ _))))).mono ?_); rintro e w1 ⟨rfl, ⟨y0, rfl⟩⟩)
  go_ret
  exact ⟨rfl, (by repeat' (first | exact Plus.refl _ | refine Plus.alloc ?_ _ | refine Plus.plus ?_ _ | refine Plus.drew ?_ | refine Plus.drewN ?_ _))⟩
theorem blanks_go (A : Option Addr) (xs : List Nat) (n c : Nat) (w : World) (hL : Lai w) (h : Ar .u16 65536 w A xs n c) : Calls Tryd.prog 5 #[.slice A n c] w fun e w' => e = .returned (.bool true) ∧ Plus w w' := by
  have HL := Lib.hid hL
  have ha := Lib.hid h
  have hlen := h.len
  by_cases hn : n ≤ 4000
  · have d0 : decide ((4000 : Int) < (n : Int)) = false := by simp; omega
    have key : uAt xs 0 ≠ 35 → (∃ (a a2 er : Nat), er ≠ 0 ∧ a ≤ 5000 ∧ a2 = a + 1 ∧ tokM xs = ⟨[], a, er⟩ ∧ tokM (32 :: xs) = ⟨[], a2, er⟩ ∧ tokM (10 :: xs) = ⟨[], a2, er⟩) ∨ (∃ L : List Tk, 0 < L.length ∧ L.length ≤ 5000 ∧ (∀ T ∈ L, T.a ≤ 5000) ∧ tokM xs = ⟨L, 0, 0⟩ ∧ tokM (32 :: xs) = ⟨L.map (mv 1), 0, 0⟩ ∧ tokM (10 :: xs) = ⟨(nl1 L).map (mv 1), 0, 0⟩) := fun h35 => by
      have e1 : tokM xs = runM xs 0 false [] xs.length := by unfold tokM; rw [if_neg (by omega)]
      have e2 := tok_ahead 32 xs (.inl rfl) h35 (by omega)
      have e3 := tok_ahead 10 xs (.inr rfl) h35 (by omega)
      rw [if_neg (by decide)] at e2
      rw [if_pos rfl] at e3
      obtain ⟨b1, b2, b3⟩ := run_bd xs xs.length 0 false [] (Nat.zero_le _) (fun t ht => by simp at ht)
      have b4 := run_ok xs xs.length 0 false []
      have b5 := run_no xs xs.length 0 false []
      have b6 := run_ne xs xs.length 0 false []
      rw [← e1] at b1 b2 b3 b4 b5 b6
      generalize tokM xs = r at e2 e3 b1 b2 b3 b4 b5 b6 ⊢
      obtain ⟨l, a, e⟩ := r
      dsimp only at b1 b2 b3 b4 b5 b6
      by_cases he : e = 0
      · subst he
        obtain rfl := b4 rfl
        right
        refine ⟨l, b6 rfl, by simp at b3; omega, fun T hT => by have := b1 T hT; omega, rfl, ?_, ?_⟩
        · rw [e2]; rfl
        · rw [e3]; rfl
      · obtain rfl := b5 he
        left
        refine ⟨a, a + 1, e, he, by omega, rfl, rfl, ?_, ?_⟩
        · rw [e2, mvR_no he]
        · rw [e3]; unfold nlR; rw [if_neg he, mvR_no he]
    by_cases h0 : n = 0
    · have hx : uAt xs 0 ≠ 35 := by
        have : xs = [] := List.eq_nil_of_length_eq_zero (by omega)
        subst this
        decide
      rcases key hx with ⟨a, a2, er, q1, q2, q3, T1, T2, T3⟩ | ⟨L, q1, q2, q3, T1, T2, T3⟩
      · exact blanks_erz A xs n c w HL ha hn d0 h0 a a2 er _ _ _ (Lib.hid rfl) (Lib.hid rfl) (Lib.hid rfl) (by omega) (by omega) (by simp; omega) (by simp; omega) (Lib.hid T1) (Lib.hid T2) (Lib.hid T3)
      · exact blanks_okz A xs n c w HL ha hn d0 h0 L q1 q2 (Lib.hid T1) (Lib.hid T2) (Lib.hid T3) q3
    · have h0n : 0 < n := by omega
      obtain ⟨g, o, hA, hg, hat⟩ := h.rd.at_ (j := 0) (by omega)
      have I0 : Old g w := ⟨hg⟩
      have hv0 : w.cell? ⟨g, o, none⟩ = some (.int .u16 (uAt xs 0 : Nat)) := hat 0 (by omega)
      by_cases h35 : uAt xs 0 = 35
      · subst hA
        exact blanks_35 g o (uAt xs 0) n c w HL d0 h0n I0 hv0 (by simp; omega)
      · rcases key h35 with ⟨a, a2, er, q1, q2, q3, T1, T2, T3⟩ | ⟨L, q1, q2, q3, T1, T2, T3⟩
        · exact blanks_erp A xs n c w HL ha hn d0 g o _ h0n hA I0 hv0 (by simp; omega) a a2 er _ _ _ (Lib.hid rfl) (Lib.hid rfl) (Lib.hid rfl) (by omega) (by omega) (by simp; omega) (by simp; omega) (Lib.hid T1) (Lib.hid T2) (Lib.hid T3)
        · exact blanks_okp A xs n c w HL ha hn d0 g o _ h0n hA I0 hv0 (by simp; omega) L q1 q2 (Lib.hid T1) (Lib.hid T2) (Lib.hid T3) q3
  · exact blanks_few A n c w HL (by simp; omega)
end Go.Proofs.YtaigkjffglbknaaDoor
