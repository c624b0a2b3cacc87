/- What the chapter's examples fix. -/
import Derived.Test.YtaigkjffglbknaaDoorB2
namespace Go.Proofs.YtaigkjffglbknaaDoor
open Go.RowKit


theorem len_of {rs : List TR} {l : List Tk} (h : rs.map (·.t) = l) : rs.length = l.length := by rw [← h, List.length_map]
theorem el_of {rs : List TR} {l : List Tk} (h : rs.map (·.t) = l) {i : Nat} (hi : i < rs.length) {x : Tk} (hx : l[i]? = some x) : rs[i].t = x := by
  subst h
  rw [List.getElem?_map, List.getElem?_eq_getElem hi] at hx
  exact Option.some.inj hx
theorem row_nl {w : World} {g : Nat} {rs : List TR} {l : List Tk} (hm : rs.map (·.t) = l) (hc : ∀ k, k < rs.length * 9 → w.cell? ⟨g, k, none⟩ = (rowC rs)[k]?) {i : Nat} (hi : i < rs.length) {x : Tk} (hx : l[i]? = some x) : w.cell? ⟨g, i * 9 + 8, none⟩ = some (.bool x.nl) := by
  rw [row_cell hc hi (by decide), ← el_of hm hi hx]; rfl
set_option maxRecDepth 100000 in
set_option maxHeartbeats 16000000 in
theorem first_c (w : World) (hL : Hid (Lai w)) : Calls Tryd.prog 11 #[] w fun e w' => e = .returned (.bool true) ∧ Plus w w' := by
  go_enter Tryd.func11, Tryd.ntmps11
  go_wp2_with fail
  refine (ascii_c ⟨#[97, 43, 43, 43, 98]⟩ (by decide) _).mono ?_
  rintro e w1 ⟨A1, c1, rfl, q1, q2, q3, ⟨x1, rfl⟩⟩
  have N1 := Lib.hid (nats_new q1 q2 q3)
  clear q1 q2 q3
  go_wp2_with fail
  refine (tokR_c _ (nats ⟨#[97, 43, 43, 43, 98]⟩) _ _ _ N1.out (by decide) (hL.out.plus (by repeat' (first | exact Plus.refl _ | refine Plus.alloc ?_ _ | refine Plus.plus ?_ _ | refine Plus.drew ?_ | refine Plus.drewN ?_ _)))).mono ?_
  rintro e w1 ⟨B1, d1, rs1, rfl, m1, k1, j1, r1, t1, ⟨y1, rfl⟩⟩
  rw [ex1] at m1 ⊢
  dsimp only at m1 ⊢
  have M1 := Lib.hid m1
  have RR1 := Lib.hid r1
  have TT1 := Lib.hid t1
  clear m1 r1 t1
  go_wp2_with fail
  refine (ascii_c ⟨#[49, 110, 32, 48, 48, 55]⟩ (by decide) _).mono ?_
  rintro e w1 ⟨A2, c2, rfl, q1, q2, q3, ⟨x2, rfl⟩⟩
  have N2 := Lib.hid (nats_new q1 q2 q3)
  clear q1 q2 q3
  go_wp2_with fail
  refine (tokR_c _ (nats ⟨#[49, 110, 32, 48, 48, 55]⟩) _ _ _ N2.out (by decide) (hL.out.plus (by repeat' (first | exact Plus.refl _ | refine Plus.alloc ?_ _ | refine Plus.plus ?_ _ | refine Plus.drew ?_ | refine Plus.drewN ?_ _)))).mono ?_
  rintro e w1 ⟨B2, d2, rs2, rfl, m2, k2, j2, r2, t2, ⟨y2, rfl⟩⟩
  rw [ex2] at m2 ⊢
  dsimp only at m2 ⊢
  have M2 := Lib.hid m2
  have RR2 := Lib.hid r2
  have TT2 := Lib.hid t2
  clear m2 r2 t2
  go_wp2_with fail
  refine (ascii_c ⟨#[49, 46, 53]⟩ (by decide) _).mono ?_
  rintro e w1 ⟨A3, c3, rfl, q1, q2, q3, ⟨x3, rfl⟩⟩
  have N3 := Lib.hid (nats_new q1 q2 q3)
  clear q1 q2 q3
  go_wp2_with fail
  refine (tokR_c _ (nats ⟨#[49, 46, 53]⟩) _ _ _ N3.out (by decide) (hL.out.plus (by repeat' (first | exact Plus.refl _ | refine Plus.alloc ?_ _ | refine Plus.plus ?_ _ | refine Plus.drew ?_ | refine Plus.drewN ?_ _)))).mono ?_
  rintro e w1 ⟨B3, d3, rs3, rfl, m3, k3, j3, r3, t3, ⟨y3, rfl⟩⟩
  rw [ex3] at m3 ⊢
  dsimp only at m3 ⊢
  have M3 := Lib.hid m3
  have RR3 := Lib.hid r3
  have TT3 := Lib.hid t3
  clear m3 r3 t3
  go_wp2_with fail
  refine (ascii_c ⟨#[97, 32, 47, 42, 32, 10, 32, 42, 47, 32, 98]⟩ (by decide) _).mono ?_
  rintro e w1 ⟨A4, c4, rfl, q1, q2, q3, ⟨x4, rfl⟩⟩
  have N4 := Lib.hid (nats_new q1 q2 q3)
  clear q1 q2 q3
  go_wp2_with fail
  refine (tokR_c _ (nats ⟨#[97, 32, 47, 42, 32, 10, 32, 42, 47, 32, 98]⟩) _ _ _ N4.out (by decide) (hL.out.plus (by repeat' (first | exact Plus.refl _ | refine Plus.alloc ?_ _ | refine Plus.plus ?_ _ | refine Plus.drew ?_ | refine Plus.drewN ?_ _)))).mono ?_
  rintro e w1 ⟨B4, d4, rs4, rfl, m4, k4, j4, r4, t4, ⟨y4, rfl⟩⟩
  rw [ex4] at m4 ⊢
  dsimp only at m4 ⊢
  have M4 := Lib.hid m4
  have RR4 := Lib.hid r4
  have TT4 := Lib.hid t4
  clear m4 r4 t4
  go_wp2_with fail
  refine (ascii_c ⟨#[34, 92, 117, 48, 48, 101, 57, 34]⟩ (by decide) _).mono ?_
  rintro e w1 ⟨A5, c5, rfl, q1, q2, q3, ⟨x5, rfl⟩⟩
  have N5 := Lib.hid (nats_new q1 q2 q3)
  clear q1 q2 q3
  go_wp2_with fail
  refine (tokR_c _ (nats ⟨#[34, 92, 117, 48, 48, 101, 57, 34]⟩) _ _ _ N5.out (by decide) (hL.out.plus (by repeat' (first | exact Plus.refl _ | refine Plus.alloc ?_ _ | refine Plus.plus ?_ _ | refine Plus.drew ?_ | refine Plus.drewN ?_ _)))).mono ?_
  rintro e w1 ⟨B5, d5, rs5, rfl, m5, k5, j5, r5, t5, ⟨y5, rfl⟩⟩
  rw [ex5] at m5 ⊢
  dsimp only at m5 ⊢
  have M5 := Lib.hid m5
  have RR5 := Lib.hid r5
  have TT5 := Lib.hid t5
  clear m5 r5 t5
  have l4 : rs4.length = 3 := len_of M4.out
  have l5 : rs5.length = 2 := len_of M5.out
  obtain ⟨g4, eB4, hg4, hc4⟩ := RR4.out (by omega)
  obtain ⟨g5, eB5, hg5, hc5⟩ := RR5.out (by omega)
  subst eB4 eB5
  have I4 : Old g4 _ := ⟨hg4⟩
  have I5 : Old g5 _ := ⟨hg5⟩
  have p0 := row_nl M4.out hc4 (i := 0) (by omega) rfl
  have p1 := row_nl M4.out hc4 (i := 1) (by omega) rfl
  dsimp only at p0 p1
  obtain ⟨r0, h0⟩ : ∃ r0, rs5[0]'(by omega) = r0 := ⟨_, rfl⟩
  have e0 : r0.t.s = [233] := by rw [← h0, el_of M5.out (by omega) rfl]
  have p2 := row_cell hc5 (i := 0) (j := 2) (by omega) (by decide)
  rw [h0] at p2
  have p3 : _ = some (Value.slice r0.As 1 r0.cs) := p2.trans (by show some (Value.slice r0.As r0.t.s.length r0.cs) = _; rw [e0]; rfl)
  have TS : Hid (TRM _ r0) := Lib.hid (TT5.out r0 (by rw [← h0]; exact List.getElem_mem _))
  have hl1 : rs1.length = 5 := len_of M1.out
  have HX : Hid ((⟨(txtB (rs1.map (·.t))).toArray⟩ : ByteArray) = ⟨#[97, 32, 43, 43, 32, 43, 32, 98, 32, 32]⟩) := Lib.hid (by rw [M1.out]; rfl)
  have HY : Hid ((txtB (rs1.map (·.t))).length ≤ 1000000) := Lib.hid (by rw [M1.out]; decide)
  have hl1' : rs1.length ≤ 4097 := by omega
  have HU : Hid (Ar .u16 65536 _ r0.As [233] 1 r0.cs) := Lib.hid (by have q := TS.out.str; rw [e0] at q; exact q)
  simp only [Nat.reduceMul, Nat.reduceAdd] at p0 p1 p2 p3
  clear hc4 hc5 p2 h0 e0 hl1
  go_wp2_with (first
    | (go_at_call 25; (with_reducible refine (texts_c _ _ _ _ (RR1.out.plus (by repeat' (first | exact Plus.refl _ | refine Plus.alloc ?_ _ | refine Plus.plus ?_ _ | refine Plus.drew ?_ | refine Plus.drewN ?_ _))) hl1' HY).mono ?_); rintro e w1 ⟨rfl, rfl⟩; rw [HX.out])
    | (go_at_call 19; (with_reducible refine (runits_c _ _ [233] [233] _ _ _ _ _ (HU.out.plus (by repeat' (first | exact Plus.refl _ | refine Plus.alloc ?_ _ | refine Plus.plus ?_ _ | refine Plus.drew ?_ | refine Plus.drewN ?_ _))) (ar_lit _ 233 _ (by omega) (by decide) _ (by simp [go_sem]) _)).mono ?_); rintro e w1 ⟨rfl, ⟨z1, rfl⟩⟩))
  go_ret
  exact ⟨rfl, (by repeat' (first | exact Plus.refl _ | refine Plus.alloc ?_ _ | refine Plus.plus ?_ _ | refine Plus.drew ?_ | refine Plus.drewN ?_ _))⟩
end Go.Proofs.YtaigkjffglbknaaDoor
