/- The walk of LexJoins. -/
import Derived.Deep.QuietTactic
import Derived.BigQuiet
import Derived.IntWalk
import Derived.Test.YtaigkjffglbknaaDoorQ3
import Derived.Test.YtaigkjffglbknaaDoorB5
namespace Go.Proofs.YtaigkjffglbknaaDoor
open Go.RowKit


theorem own_join {w : World} {B : Nat} {v : Value} {xs ys : List Nat} (h : w.ownsRow B 40 1 v ((xs ++ [10]).length + ys.length) (vals .u16 (xs ++ [10]) ++ vals .u16 ys)) : w.ownsRow B 40 1 v (xs ++ 10 :: ys).length (vals .u16 (xs ++ 10 :: ys)) := by
  have e : xs ++ 10 :: ys = (xs ++ [10]) ++ ys := by simp
  rw [e, vals_app .u16 (xs ++ [10]) ys, List.length_append]
  exact h

set_option maxRecDepth 100000 in
set_option maxHeartbeats 16000000 in
theorem joins_euz (A1 A2 : Option Addr) (xs ys : List Nat) (n c m d : Nat) (w : World) (HL : Hid (Lai w)) (ha : Hid (Ar .u16 65536 w A1 xs n c)) (hb : Hid (Ar .u16 65536 w A2 ys m d)) (hn : n ≤ 2000) (hm : m ≤ 2000) (dn : decide ((2000 : Int) < (n : Int)) = false) (dm : decide ((2000 : Int) < (m : Int)) = false) (h0m : m = 0) (a er : Nat) (ze : Int) (He : Hid ((er : Int) = ze)) (he : (ze != 0) = true) (hle : decide (a ≤ n) = true) (T1 : Hid (tokM xs = ⟨[], a, er⟩)) :
    Calls Tryd.prog 6 #[.slice A1 n c, .slice A2 m d] w fun e w' => e = .returned (.bool true) ∧ Plus w w' := by
  subst h0m
  obtain ⟨i0, hi, hz0, hz1, hz2⟩ := info_parts infoU16
  have hlen := Lib.hid ha.out.len
  have hlen2 := Lib.hid hb.out.len
  have hxl : xs.length ≤ 2000 := by have := ha.out.len; omega
  have hyl : ys.length ≤ 2000 := by have := hb.out.len; omega
  go_enter Tryd.func6, Tryd.ntmps6
  go_wp2_with (go_at_call 11; (with_reducible refine (first_c _ (Lib.hid (HL.out.plus (by repeat' (first | exact Plus.refl _ | refine Plus.alloc ?_ _ | refine Plus.plus ?_ _ | refine Plus.drew ?_ | refine Plus.drewN ?_ _))))).mono ?_); rintro e w1 ⟨rfl, ⟨y0, rfl⟩⟩)
  refine (tokR_c _ xs _ _ _ (ha.out.plus (by repeat' (first | exact Plus.refl _ | refine Plus.alloc ?_ _ | refine Plus.plus ?_ _ | refine Plus.drew ?_ | refine Plus.drewN ?_ _))) (by omega) (HL.out.plus (by repeat' (first | exact Plus.refl _ | refine Plus.alloc ?_ _ | refine Plus.plus ?_ _ | refine Plus.drew ?_ | refine Plus.drewN ?_ _)))).mono ?_
  rintro e w1 ⟨B1, d1, rs1, rfl, m1, k1, j1, R1, t1, ⟨y1, rfl⟩⟩
  rw [T1.out] at m1 ⊢
  dsimp only at m1 ⊢
  have M1 := Lib.hid m1
  have RR1 := Lib.hid R1
  have TT1 := Lib.hid t1
  clear m1 R1 t1
  go_wp2_with fail
  refine (tokR_c _ ys _ _ _ (hb.out.plus (by repeat' (first | exact Plus.refl _ | refine Plus.alloc ?_ _ | refine Plus.plus ?_ _ | refine Plus.drew ?_ | refine Plus.drewN ?_ _))) (by omega) (HL.out.plus (by repeat' (first | exact Plus.refl _ | refine Plus.alloc ?_ _ | refine Plus.plus ?_ _ | refine Plus.drew ?_ | refine Plus.drewN ?_ _)))).mono ?_
  rintro e w1 ⟨B2, d2, rs2, rfl, m2, k2, j2, R2, t2, ⟨y2, rfl⟩⟩
  have M2 := Lib.hid m2
  have RR2 := Lib.hid R2
  have TT2 := Lib.hid t2
  clear m2 R2 t2
  go_wp2_with fail
  refine (copy_c _ xs _ _ _ (ha.out.plus (by repeat' (first | exact Plus.refl _ | refine Plus.alloc ?_ _ | refine Plus.plus ?_ _ | refine Plus.drew ?_ | refine Plus.drewN ?_ _))) (by omega)).mono ?_
  rintro e w1 ⟨vv, rfl, ho, ⟨z0, rfl⟩⟩
  have HO1 := Lib.hid ho
  clear ho
  go_wp2_with (first | (at_builtin; refine wpList_append_rd (by rfl) _ _ 25 rfl (plus (plus (plus w y0) y1) y2).heap.size 40 i0 (.int .u16 0) 2 .u16 Tryd.underlying25 hi hz0 hz1 hz2 (by decide) _ (xs ++ [10]) ys rfl HO2.out _ _ _ rfl hlen2.out (hb.out.rd.plus (by repeat' (first | exact Plus.refl _ | refine Plus.alloc ?_ _ | refine Plus.plus ?_ _ | refine Plus.drew ?_ | refine Plus.drewN ?_ _))) (by simp; unfold maxLen; omega) (by simp; omega) (by simp [go_sem]) ?_; intro v3 w3 hown3 hgr3; obtain ⟨z2, rfl⟩ := below_rd HO2.out (show Plus (plus (plus (plus w y0) y1) y2) _ from (by repeat' (first | exact Plus.refl _ | refine Plus.alloc ?_ _ | refine Plus.plus ?_ _ | refine Plus.drew ?_ | refine Plus.drewN ?_ _))) hgr3; have HO3 : Hid ((plus (plus (plus (plus w y0) y1) y2) z2).ownsRow (plus (plus (plus w y0) y1) y2).heap.size 40 1 v3 (xs ++ 10 :: ys).length (vals .u16 (xs ++ 10 :: ys))) := Lib.hid (own_join hown3); clear hown3 hgr3) | (at_builtin; refine wpList_append_own _ rfl _ _ 25 rfl (plus (plus (plus w y0) y1) y2).heap.size 40 i0 (.int .u16 0) 1 2 Tryd.underlying25 hi hz0 hz1 hz2 rfl (by decide) _ _ _ rfl (own_alloc HO1.out _) ⟨w.heap.size + y0.blocks.length + y1.blocks.length + y2.blocks.length + z0.blocks.length, 0, none⟩ 1 1 [.int .u16 10] rfl rfl (news_at' _ _ _ _ (by simp [go_sem])) (one_u16 [10]) (by unfold maxLen; omega) (by omega) (by simp [go_sem] <;> omega) ?_; intro v2 w2 hown2 hgr2 _; obtain ⟨z1, rfl⟩ := Plus.of_below (below_own HO1.out hgr2 (Plus.below (w := plus (plus (plus w y0) y1) y2) (by repeat' (first | exact Plus.refl _ | refine Plus.alloc ?_ _ | refine Plus.plus ?_ _ | refine Plus.drew ?_ | refine Plus.drewN ?_ _))) (by simp [go_sem])); have HO2 : Hid ((plus (plus (plus (plus w y0) y1) y2) z1).ownsRow (plus (plus (plus w y0) y1) y2).heap.size 40 1 v2 (xs ++ [10]).length (vals .u16 (xs ++ [10]))) := Lib.hid (by rw [vals_app, List.length_append]; exact hown2); clear hown2 hgr2))
  obtain ⟨C3, dd3, rfl, r1, r2, r3⟩ := rd_of_own HO3.out
  have hb3 : ∀ x ∈ xs ++ 10 :: ys, x < 65536 := fun x hx => by
    simp at hx
    rcases hx with h | rfl | h
    · exact ha.out.bd x h
    · decide
    · exact hb.out.bd x h
  have NB3 : Hid (Ar .u16 65536 _ C3 (xs ++ 10 :: ys) (xs ++ 10 :: ys).length dd3) := Lib.hid ⟨r3, rfl, r1, r2, hb3⟩
  clear r1 r2 r3 hb3
  refine (tokR_c C3 (xs ++ 10 :: ys) _ dd3 _ NB3.out (by simp; omega) (HL.out.plus (by repeat' (first | exact Plus.refl _ | refine Plus.alloc ?_ _ | refine Plus.plus ?_ _ | refine Plus.drew ?_ | refine Plus.drewN ?_ _)))).mono ?_
  rintro e w1 ⟨B3, d3, rs3, rfl, m3, k3, j3, R3, t3, ⟨y3, rfl⟩⟩
  have M3 := Lib.hid m3
  have RR3 := Lib.hid R3
  have TT3 := Lib.hid t3
  clear m3 R3 t3
  rw [He.out]
  go_wp2_with (first | (go_at_call 11; (with_reducible refine (first_c _ (Lib.hid (HL.out.plus (by repeat' (first | exact Plus.refl _ | refine Plus.alloc ?_ _ | refine Plus.plus ?_ _ | refine Plus.drew ?_ | refine Plus.drewN ?_ _))))).mono ?_); rintro e w1 ⟨rfl, ⟨y5, rfl⟩⟩))
  go_ret
  exact ⟨rfl, (by repeat' (first | exact Plus.refl _ | refine Plus.alloc ?_ _ | refine Plus.plus ?_ _ | refine Plus.drew ?_ | refine Plus.drewN ?_ _))⟩
set_option maxRecDepth 100000 in
set_option maxHeartbeats 16000000 in
theorem joins_evz (A1 A2 : Option Addr) (xs ys : List Nat) (n c m d : Nat) (w : World) (HL : Hid (Lai w)) (ha : Hid (Ar .u16 65536 w A1 xs n c)) (hb : Hid (Ar .u16 65536 w A2 ys m d)) (hn : n ≤ 2000) (hm : m ≤ 2000) (dn : decide ((2000 : Int) < (n : Int)) = false) (dm : decide ((2000 : Int) < (m : Int)) = false) (h0m : m = 0) (L : List Tk) (b b2 er : Nat) (zb zc ze : Int) (Hb : Hid ((b : Int) = zb)) (Hc : Hid ((b2 : Int) = zc)) (He : Hid ((er : Int) = ze)) (h0b : 0 ≤ zb) (h1b : zb ≤ 5000) (e1 : (zc == zb + (n : Int) + 1) = true) (he : (ze != 0) = true) (T1 : Hid (tokM xs = ⟨L, 0, 0⟩)) (T2 : Hid (tokM ys = ⟨[], b, er⟩)) (T3 : Hid (tokM (xs ++ 10 :: ys) = ⟨[], b2, er⟩)) :
    Calls Tryd.prog 6 #[.slice A1 n c, .slice A2 m d] w fun e w' => e = .returned (.bool true) ∧ Plus w w' := by
  subst h0m
  obtain ⟨i0, hi, hz0, hz1, hz2⟩ := info_parts infoU16
  have hlen := Lib.hid ha.out.len
  have hlen2 := Lib.hid hb.out.len
  have hxl : xs.length ≤ 2000 := by have := ha.out.len; omega
  have hyl : ys.length ≤ 2000 := by have := hb.out.len; omega
  go_enter Tryd.func6, Tryd.ntmps6
  go_wp2_with (go_at_call 11; (with_reducible refine (first_c _ (Lib.hid (HL.out.plus (by repeat' (first | exact Plus.refl _ | refine Plus.alloc ?_ _ | refine Plus.plus ?_ _ | refine Plus.drew ?_ | refine Plus.drewN ?_ _))))).mono ?_); rintro e w1 ⟨rfl, ⟨y0, rfl⟩⟩)
  refine (tokR_c _ xs _ _ _ (ha.out.plus (by repeat' (first | exact Plus.refl _ | refine Plus.alloc ?_ _ | refine Plus.plus ?_ _ | refine Plus.drew ?_ | refine Plus.drewN ?_ _))) (by omega) (HL.out.plus (by repeat' (first | exact Plus.refl _ | refine Plus.alloc ?_ _ | refine Plus.plus ?_ _ | refine Plus.drew ?_ | refine Plus.drewN ?_ _)))).mono ?_
  rintro e w1 ⟨B1, d1, rs1, rfl, m1, k1, j1, R1, t1, ⟨y1, rfl⟩⟩
  rw [T1.out] at m1 ⊢
  dsimp only at m1 ⊢
  have M1 := Lib.hid m1
  have RR1 := Lib.hid R1
  have TT1 := Lib.hid t1
  clear m1 R1 t1
  go_wp2_with fail
  refine (tokR_c _ ys _ _ _ (hb.out.plus (by repeat' (first | exact Plus.refl _ | refine Plus.alloc ?_ _ | refine Plus.plus ?_ _ | refine Plus.drew ?_ | refine Plus.drewN ?_ _))) (by omega) (HL.out.plus (by repeat' (first | exact Plus.refl _ | refine Plus.alloc ?_ _ | refine Plus.plus ?_ _ | refine Plus.drew ?_ | refine Plus.drewN ?_ _)))).mono ?_
  rintro e w1 ⟨B2, d2, rs2, rfl, m2, k2, j2, R2, t2, ⟨y2, rfl⟩⟩
  rw [T2.out] at m2 ⊢
  dsimp only at m2 ⊢
  have M2 := Lib.hid m2
  have RR2 := Lib.hid R2
  have TT2 := Lib.hid t2
  clear m2 R2 t2
  go_wp2_with fail
  refine (copy_c _ xs _ _ _ (ha.out.plus (by repeat' (first | exact Plus.refl _ | refine Plus.alloc ?_ _ | refine Plus.plus ?_ _ | refine Plus.drew ?_ | refine Plus.drewN ?_ _))) (by omega)).mono ?_
  rintro e w1 ⟨vv, rfl, ho, ⟨z0, rfl⟩⟩
  have HO1 := Lib.hid ho
  clear ho
  go_wp2_with (first | (at_builtin; refine wpList_append_rd (by rfl) _ _ 25 rfl (plus (plus (plus w y0) y1) y2).heap.size 40 i0 (.int .u16 0) 2 .u16 Tryd.underlying25 hi hz0 hz1 hz2 (by decide) _ (xs ++ [10]) ys rfl HO2.out _ _ _ rfl hlen2.out (hb.out.rd.plus (by repeat' (first | exact Plus.refl _ | refine Plus.alloc ?_ _ | refine Plus.plus ?_ _ | refine Plus.drew ?_ | refine Plus.drewN ?_ _))) (by simp; unfold maxLen; omega) (by simp; omega) (by simp [go_sem]) ?_; intro v3 w3 hown3 hgr3; obtain ⟨z2, rfl⟩ := below_rd HO2.out (show Plus (plus (plus (plus w y0) y1) y2) _ from (by repeat' (first | exact Plus.refl _ | refine Plus.alloc ?_ _ | refine Plus.plus ?_ _ | refine Plus.drew ?_ | refine Plus.drewN ?_ _))) hgr3; have HO3 : Hid ((plus (plus (plus (plus w y0) y1) y2) z2).ownsRow (plus (plus (plus w y0) y1) y2).heap.size 40 1 v3 (xs ++ 10 :: ys).length (vals .u16 (xs ++ 10 :: ys))) := Lib.hid (own_join hown3); clear hown3 hgr3) | (at_builtin; refine wpList_append_own _ rfl _ _ 25 rfl (plus (plus (plus w y0) y1) y2).heap.size 40 i0 (.int .u16 0) 1 2 Tryd.underlying25 hi hz0 hz1 hz2 rfl (by decide) _ _ _ rfl (own_alloc HO1.out _) ⟨w.heap.size + y0.blocks.length + y1.blocks.length + y2.blocks.length + z0.blocks.length, 0, none⟩ 1 1 [.int .u16 10] rfl rfl (news_at' _ _ _ _ (by simp [go_sem])) (one_u16 [10]) (by unfold maxLen; omega) (by omega) (by simp [go_sem] <;> omega) ?_; intro v2 w2 hown2 hgr2 _; obtain ⟨z1, rfl⟩ := Plus.of_below (below_own HO1.out hgr2 (Plus.below (w := plus (plus (plus w y0) y1) y2) (by repeat' (first | exact Plus.refl _ | refine Plus.alloc ?_ _ | refine Plus.plus ?_ _ | refine Plus.drew ?_ | refine Plus.drewN ?_ _))) (by simp [go_sem])); have HO2 : Hid ((plus (plus (plus (plus w y0) y1) y2) z1).ownsRow (plus (plus (plus w y0) y1) y2).heap.size 40 1 v2 (xs ++ [10]).length (vals .u16 (xs ++ [10]))) := Lib.hid (by rw [vals_app, List.length_append]; exact hown2); clear hown2 hgr2))
  obtain ⟨C3, dd3, rfl, r1, r2, r3⟩ := rd_of_own HO3.out
  have hb3 : ∀ x ∈ xs ++ 10 :: ys, x < 65536 := fun x hx => by
    simp at hx
    rcases hx with h | rfl | h
    · exact ha.out.bd x h
    · decide
    · exact hb.out.bd x h
  have NB3 : Hid (Ar .u16 65536 _ C3 (xs ++ 10 :: ys) (xs ++ 10 :: ys).length dd3) := Lib.hid ⟨r3, rfl, r1, r2, hb3⟩
  clear r1 r2 r3 hb3
  refine (tokR_c C3 (xs ++ 10 :: ys) _ dd3 _ NB3.out (by simp; omega) (HL.out.plus (by repeat' (first | exact Plus.refl _ | refine Plus.alloc ?_ _ | refine Plus.plus ?_ _ | refine Plus.drew ?_ | refine Plus.drewN ?_ _)))).mono ?_
  rintro e w1 ⟨B3, d3, rs3, rfl, m3, k3, j3, R3, t3, ⟨y3, rfl⟩⟩
  rw [T3.out] at m3 ⊢
  dsimp only at m3 ⊢
  have M3 := Lib.hid m3
  have RR3 := Lib.hid R3
  have TT3 := Lib.hid t3
  clear m3 R3 t3
  rw [Hb.out, Hc.out, He.out]
  go_wp2_with (first | (go_at_call 11; (with_reducible refine (first_c _ (Lib.hid (HL.out.plus (by repeat' (first | exact Plus.refl _ | refine Plus.alloc ?_ _ | refine Plus.plus ?_ _ | refine Plus.drew ?_ | refine Plus.drewN ?_ _))))).mono ?_); rintro e w1 ⟨rfl, ⟨y5, rfl⟩⟩))
  go_ret
  exact ⟨rfl, (by repeat' (first | exact Plus.refl _ | refine Plus.alloc ?_ _ | refine Plus.plus ?_ _ | refine Plus.drew ?_ | refine Plus.drewN ?_ _))⟩

set_option maxRecDepth 100000 in
set_option maxHeartbeats 16000000 in
theorem joins_eup (A1 A2 : Option Addr) (xs ys : List Nat) (n c m d : Nat) (w : World) (HL : Hid (Lai w)) (ha : Hid (Ar .u16 65536 w A1 xs n c)) (hb : Hid (Ar .u16 65536 w A2 ys m d)) (hn : n ≤ 2000) (hm : m ≤ 2000) (dn : decide ((2000 : Int) < (n : Int)) = false) (dm : decide ((2000 : Int) < (m : Int)) = false) (g o v : Nat) (h0m : 0 < m) (hA : A2 = some ⟨g, o, none⟩) (I0 : Old g w) (hv0 : w.cell? ⟨g, o, none⟩ = some (.int .u16 (v : Nat))) (h35 : ((v : Int) == 35) = false) (a er : Nat) (ze : Int) (He : Hid ((er : Int) = ze)) (he : (ze != 0) = true) (hle : decide (a ≤ n) = true) (T1 : Hid (tokM xs = ⟨[], a, er⟩)) :
    Calls Tryd.prog 6 #[.slice A1 n c, .slice A2 m d] w fun e w' => e = .returned (.bool true) ∧ Plus w w' := by
  subst hA
  obtain ⟨i0, hi, hz0, hz1, hz2⟩ := info_parts infoU16
  have hlen := Lib.hid ha.out.len
  have hlen2 := Lib.hid hb.out.len
  have hxl : xs.length ≤ 2000 := by have := ha.out.len; omega
  have hyl : ys.length ≤ 2000 := by have := hb.out.len; omega
  go_enter Tryd.func6, Tryd.ntmps6
  go_wp2_with (go_at_call 11; (with_reducible refine (first_c _ (Lib.hid (HL.out.plus (by repeat' (first | exact Plus.refl _ | refine Plus.alloc ?_ _ | refine Plus.plus ?_ _ | refine Plus.drew ?_ | refine Plus.drewN ?_ _))))).mono ?_); rintro e w1 ⟨rfl, ⟨y0, rfl⟩⟩)
  refine (tokR_c _ xs _ _ _ (ha.out.plus (by repeat' (first | exact Plus.refl _ | refine Plus.alloc ?_ _ | refine Plus.plus ?_ _ | refine Plus.drew ?_ | refine Plus.drewN ?_ _))) (by omega) (HL.out.plus (by repeat' (first | exact Plus.refl _ | refine Plus.alloc ?_ _ | refine Plus.plus ?_ _ | refine Plus.drew ?_ | refine Plus.drewN ?_ _)))).mono ?_
  rintro e w1 ⟨B1, d1, rs1, rfl, m1, k1, j1, R1, t1, ⟨y1, rfl⟩⟩
  rw [T1.out] at m1 ⊢
  dsimp only at m1 ⊢
  have M1 := Lib.hid m1
  have RR1 := Lib.hid R1
  have TT1 := Lib.hid t1
  clear m1 R1 t1
  go_wp2_with fail
  refine (tokR_c _ ys _ _ _ (hb.out.plus (by repeat' (first | exact Plus.refl _ | refine Plus.alloc ?_ _ | refine Plus.plus ?_ _ | refine Plus.drew ?_ | refine Plus.drewN ?_ _))) (by omega) (HL.out.plus (by repeat' (first | exact Plus.refl _ | refine Plus.alloc ?_ _ | refine Plus.plus ?_ _ | refine Plus.drew ?_ | refine Plus.drewN ?_ _)))).mono ?_
  rintro e w1 ⟨B2, d2, rs2, rfl, m2, k2, j2, R2, t2, ⟨y2, rfl⟩⟩
  have M2 := Lib.hid m2
  have RR2 := Lib.hid R2
  have TT2 := Lib.hid t2
  clear m2 R2 t2
  go_wp2_with fail
  refine (copy_c _ xs _ _ _ (ha.out.plus (by repeat' (first | exact Plus.refl _ | refine Plus.alloc ?_ _ | refine Plus.plus ?_ _ | refine Plus.drew ?_ | refine Plus.drewN ?_ _))) (by omega)).mono ?_
  rintro e w1 ⟨vv, rfl, ho, ⟨z0, rfl⟩⟩
  have HO1 := Lib.hid ho
  clear ho
  go_wp2_with (first | (at_builtin; refine wpList_append_rd (by rfl) _ _ 25 rfl (plus (plus (plus w y0) y1) y2).heap.size 40 i0 (.int .u16 0) 2 .u16 Tryd.underlying25 hi hz0 hz1 hz2 (by decide) _ (xs ++ [10]) ys rfl HO2.out _ _ _ rfl hlen2.out (hb.out.rd.plus (by repeat' (first | exact Plus.refl _ | refine Plus.alloc ?_ _ | refine Plus.plus ?_ _ | refine Plus.drew ?_ | refine Plus.drewN ?_ _))) (by simp; unfold maxLen; omega) (by simp; omega) (by simp [go_sem]) ?_; intro v3 w3 hown3 hgr3; obtain ⟨z2, rfl⟩ := below_rd HO2.out (show Plus (plus (plus (plus w y0) y1) y2) _ from (by repeat' (first | exact Plus.refl _ | refine Plus.alloc ?_ _ | refine Plus.plus ?_ _ | refine Plus.drew ?_ | refine Plus.drewN ?_ _))) hgr3; have HO3 : Hid ((plus (plus (plus (plus w y0) y1) y2) z2).ownsRow (plus (plus (plus w y0) y1) y2).heap.size 40 1 v3 (xs ++ 10 :: ys).length (vals .u16 (xs ++ 10 :: ys))) := Lib.hid (own_join hown3); clear hown3 hgr3) | (at_builtin; refine wpList_append_own _ rfl _ _ 25 rfl (plus (plus (plus w y0) y1) y2).heap.size 40 i0 (.int .u16 0) 1 2 Tryd.underlying25 hi hz0 hz1 hz2 rfl (by decide) _ _ _ rfl (own_alloc HO1.out _) ⟨w.heap.size + y0.blocks.length + y1.blocks.length + y2.blocks.length + z0.blocks.length, 0, none⟩ 1 1 [.int .u16 10] rfl rfl (news_at' _ _ _ _ (by simp [go_sem])) (one_u16 [10]) (by unfold maxLen; omega) (by omega) (by simp [go_sem] <;> omega) ?_; intro v2 w2 hown2 hgr2 _; obtain ⟨z1, rfl⟩ := Plus.of_below (below_own HO1.out hgr2 (Plus.below (w := plus (plus (plus w y0) y1) y2) (by repeat' (first | exact Plus.refl _ | refine Plus.alloc ?_ _ | refine Plus.plus ?_ _ | refine Plus.drew ?_ | refine Plus.drewN ?_ _))) (by simp [go_sem])); have HO2 : Hid ((plus (plus (plus (plus w y0) y1) y2) z1).ownsRow (plus (plus (plus w y0) y1) y2).heap.size 40 1 v2 (xs ++ [10]).length (vals .u16 (xs ++ [10]))) := Lib.hid (by rw [vals_app, List.length_append]; exact hown2); clear hown2 hgr2))
  obtain ⟨C3, dd3, rfl, r1, r2, r3⟩ := rd_of_own HO3.out
  have hb3 : ∀ x ∈ xs ++ 10 :: ys, x < 65536 := fun x hx => by
    simp at hx
    rcases hx with h | rfl | h
    · exact ha.out.bd x h
    · decide
    · exact hb.out.bd x h
  have NB3 : Hid (Ar .u16 65536 _ C3 (xs ++ 10 :: ys) (xs ++ 10 :: ys).length dd3) := Lib.hid ⟨r3, rfl, r1, r2, hb3⟩
  clear r1 r2 r3 hb3
  refine (tokR_c C3 (xs ++ 10 :: ys) _ dd3 _ NB3.out (by simp; omega) (HL.out.plus (by repeat' (first | exact Plus.refl _ | refine Plus.alloc ?_ _ | refine Plus.plus ?_ _ | refine Plus.drew ?_ | refine Plus.drewN ?_ _)))).mono ?_
  rintro e w1 ⟨B3, d3, rs3, rfl, m3, k3, j3, R3, t3, ⟨y3, rfl⟩⟩
  have M3 := Lib.hid m3
  have RR3 := Lib.hid R3
  have TT3 := Lib.hid t3
  clear m3 R3 t3
  rw [He.out]
  go_wp2_with (first | (go_at_call 11; (with_reducible refine (first_c _ (Lib.hid (HL.out.plus (by repeat' (first | exact Plus.refl _ | refine Plus.alloc ?_ _ | refine Plus.plus ?_ _ | refine Plus.drew ?_ | refine Plus.drewN ?_ _))))).mono ?_); rintro e w1 ⟨rfl, ⟨y5, rfl⟩⟩))
  go_ret
  exact ⟨rfl, (by repeat' (first | exact Plus.refl _ | refine Plus.alloc ?_ _ | refine Plus.plus ?_ _ | refine Plus.drew ?_ | refine Plus.drewN ?_ _))⟩
set_option maxRecDepth 100000 in
set_option maxHeartbeats 16000000 in
theorem joins_evp (A1 A2 : Option Addr) (xs ys : List Nat) (n c m d : Nat) (w : World) (HL : Hid (Lai w)) (ha : Hid (Ar .u16 65536 w A1 xs n c)) (hb : Hid (Ar .u16 65536 w A2 ys m d)) (hn : n ≤ 2000) (hm : m ≤ 2000) (dn : decide ((2000 : Int) < (n : Int)) = false) (dm : decide ((2000 : Int) < (m : Int)) = false) (g o v : Nat) (h0m : 0 < m) (hA : A2 = some ⟨g, o, none⟩) (I0 : Old g w) (hv0 : w.cell? ⟨g, o, none⟩ = some (.int .u16 (v : Nat))) (h35 : ((v : Int) == 35) = false) (L : List Tk) (b b2 er : Nat) (zb zc ze : Int) (Hb : Hid ((b : Int) = zb)) (Hc : Hid ((b2 : Int) = zc)) (He : Hid ((er : Int) = ze)) (h0b : 0 ≤ zb) (h1b : zb ≤ 5000) (e1 : (zc == zb + (n : Int) + 1) = true) (he : (ze != 0) = true) (T1 : Hid (tokM xs = ⟨L, 0, 0⟩)) (T2 : Hid (tokM ys = ⟨[], b, er⟩)) (T3 : Hid (tokM (xs ++ 10 :: ys) = ⟨[], b2, er⟩)) :
    Calls Tryd.prog 6 #[.slice A1 n c, .slice A2 m d] w fun e w' => e = .returned (.bool true) ∧ Plus w w' := by
  subst hA
  obtain ⟨i0, hi, hz0, hz1, hz2⟩ := info_parts infoU16
  have hlen := Lib.hid ha.out.len
  have hlen2 := Lib.hid hb.out.len
  have hxl : xs.length ≤ 2000 := by have := ha.out.len; omega
  have hyl : ys.length ≤ 2000 := by have := hb.out.len; omega
  go_enter Tryd.func6, Tryd.ntmps6
  go_wp2_with (go_at_call 11; (with_reducible refine (first_c _ (Lib.hid (HL.out.plus (by repeat' (first | exact Plus.refl _ | refine Plus.alloc ?_ _ | refine Plus.plus ?_ _ | refine Plus.drew ?_ | refine Plus.drewN ?_ _))))).mono ?_); rintro e w1 ⟨rfl, ⟨y0, rfl⟩⟩)
  refine (tokR_c _ xs _ _ _ (ha.out.plus (by repeat' (first | exact Plus.refl _ | refine Plus.alloc ?_ _ | refine Plus.plus ?_ _ | refine Plus.drew ?_ | refine Plus.drewN ?_ _))) (by omega) (HL.out.plus (by repeat' (first | exact Plus.refl _ | refine Plus.alloc ?_ _ | refine Plus.plus ?_ _ | refine Plus.drew ?_ | refine Plus.drewN ?_ _)))).mono ?_
  rintro e w1 ⟨B1, d1, rs1, rfl, m1, k1, j1, R1, t1, ⟨y1, rfl⟩⟩
  rw [T1.out] at m1 ⊢
  dsimp only at m1 ⊢
  have M1 := Lib.hid m1
  have RR1 := Lib.hid R1
  have TT1 := Lib.hid t1
  clear m1 R1 t1
  go_wp2_with fail
  refine (tokR_c _ ys _ _ _ (hb.out.plus (by repeat' (first | exact Plus.refl _ | refine Plus.alloc ?_ _ | refine Plus.plus ?_ _ | refine Plus.drew ?_ | refine Plus.drewN ?_ _))) (by omega) (HL.out.plus (by repeat' (first | exact Plus.refl _ | refine Plus.alloc ?_ _ | refine Plus.plus ?_ _ | refine Plus.drew ?_ | refine Plus.drewN ?_ _)))).mono ?_
  rintro e w1 ⟨B2, d2, rs2, rfl, m2, k2, j2, R2, t2, ⟨y2, rfl⟩⟩
  rw [T2.out] at m2 ⊢
  dsimp only at m2 ⊢
  have M2 := Lib.hid m2
  have RR2 := Lib.hid R2
  have TT2 := Lib.hid t2
  clear m2 R2 t2
  go_wp2_with fail
  refine (copy_c _ xs _ _ _ (ha.out.plus (by repeat' (first | exact Plus.refl _ | refine Plus.alloc ?_ _ | refine Plus.plus ?_ _ | refine Plus.drew ?_ | refine Plus.drewN ?_ _))) (by omega)).mono ?_
  rintro e w1 ⟨vv, rfl, ho, ⟨z0, rfl⟩⟩
  have HO1 := Lib.hid ho
  clear ho
  go_wp2_with (first | (at_builtin; refine wpList_append_rd (by rfl) _ _ 25 rfl (plus (plus (plus w y0) y1) y2).heap.size 40 i0 (.int .u16 0) 2 .u16 Tryd.underlying25 hi hz0 hz1 hz2 (by decide) _ (xs ++ [10]) ys rfl HO2.out _ _ _ rfl hlen2.out (hb.out.rd.plus (by repeat' (first | exact Plus.refl _ | refine Plus.alloc ?_ _ | refine Plus.plus ?_ _ | refine Plus.drew ?_ | refine Plus.drewN ?_ _))) (by simp; unfold maxLen; omega) (by simp; omega) (by simp [go_sem]) ?_; intro v3 w3 hown3 hgr3; obtain ⟨z2, rfl⟩ := below_rd HO2.out (show Plus (plus (plus (plus w y0) y1) y2) _ from (by repeat' (first | exact Plus.refl _ | refine Plus.alloc ?_ _ | refine Plus.plus ?_ _ | refine Plus.drew ?_ | refine Plus.drewN ?_ _))) hgr3; have HO3 : Hid ((plus (plus (plus (plus w y0) y1) y2) z2).ownsRow (plus (plus (plus w y0) y1) y2).heap.size 40 1 v3 (xs ++ 10 :: ys).length (vals .u16 (xs ++ 10 :: ys))) := Lib.hid (own_join hown3); clear hown3 hgr3) | (at_builtin; refine wpList_append_own _ rfl _ _ 25 rfl (plus (plus (plus w y0) y1) y2).heap.size 40 i0 (.int .u16 0) 1 2 Tryd.underlying25 hi hz0 hz1 hz2 rfl (by decide) _ _ _ rfl (own_alloc HO1.out _) ⟨w.heap.size + y0.blocks.length + y1.blocks.length + y2.blocks.length + z0.blocks.length, 0, none⟩ 1 1 [.int .u16 10] rfl rfl (news_at' _ _ _ _ (by simp [go_sem])) (one_u16 [10]) (by unfold maxLen; omega) (by omega) (by simp [go_sem] <;> omega) ?_; intro v2 w2 hown2 hgr2 _; obtain ⟨z1, rfl⟩ := Plus.of_below (below_own HO1.out hgr2 (Plus.below (w := plus (plus (plus w y0) y1) y2) (by repeat' (first | exact Plus.refl _ | refine Plus.alloc ?_ _ | refine Plus.plus ?_ _ | refine Plus.drew ?_ | refine Plus.drewN ?_ _))) (by simp [go_sem])); have HO2 : Hid ((plus (plus (plus (plus w y0) y1) y2) z1).ownsRow (plus (plus (plus w y0) y1) y2).heap.size 40 1 v2 (xs ++ [10]).length (vals .u16 (xs ++ [10]))) := Lib.hid (by rw [vals_app, List.length_append]; exact hown2); clear hown2 hgr2))
  obtain ⟨C3, dd3, rfl, r1, r2, r3⟩ := rd_of_own HO3.out
  have hb3 : ∀ x ∈ xs ++ 10 :: ys, x < 65536 := fun x hx => by
    simp at hx
    rcases hx with h | rfl | h
    · exact ha.out.bd x h
    · decide
    · exact hb.out.bd x h
  have NB3 : Hid (Ar .u16 65536 _ C3 (xs ++ 10 :: ys) (xs ++ 10 :: ys).length dd3) := Lib.hid ⟨r3, rfl, r1, r2, hb3⟩
  clear r1 r2 r3 hb3
  refine (tokR_c C3 (xs ++ 10 :: ys) _ dd3 _ NB3.out (by simp; omega) (HL.out.plus (by repeat' (first | exact Plus.refl _ | refine Plus.alloc ?_ _ | refine Plus.plus ?_ _ | refine Plus.drew ?_ | refine Plus.drewN ?_ _)))).mono ?_
  rintro e w1 ⟨B3, d3, rs3, rfl, m3, k3, j3, R3, t3, ⟨y3, rfl⟩⟩
  rw [T3.out] at m3 ⊢
  dsimp only at m3 ⊢
  have M3 := Lib.hid m3
  have RR3 := Lib.hid R3
  have TT3 := Lib.hid t3
  clear m3 R3 t3
  rw [Hb.out, Hc.out, He.out]
  go_wp2_with (first | (go_at_call 11; (with_reducible refine (first_c _ (Lib.hid (HL.out.plus (by repeat' (first | exact Plus.refl _ | refine Plus.alloc ?_ _ | refine Plus.plus ?_ _ | refine Plus.drew ?_ | refine Plus.drewN ?_ _))))).mono ?_); rintro e w1 ⟨rfl, ⟨y5, rfl⟩⟩))
  go_ret
  exact ⟨rfl, (by repeat' (first | exact Plus.refl _ | refine Plus.alloc ?_ _ | refine Plus.plus ?_ _ | refine Plus.drew ?_ | refine Plus.drewN ?_ _))⟩
end Go.Proofs.YtaigkjffglbknaaDoor
