/- The walk of LexJoins, where both are well. -/
import Derived.Deep.QuietTactic
import Derived.BigQuiet
import Derived.IntWalk
import Derived.Test.YtaigkjffglbknaaDoorL6w
namespace Go.Proofs.YtaigkjffglbknaaDoor
open Go.RowKit


theorem lt_plus {W W' : World} {g : Nat} (h : g < W.heap.size) (hp : Plus W W') : g < W'.heap.size := Nat.lt_of_lt_of_le h hp.below.size
theorem hc_plus {W W' : World} {g : Nat} {rs : List TR} (hg : g < W.heap.size) (h : Hid (∀ k, k < rs.length * 9 → W.cell? ⟨g, k, none⟩ = (rowC rs)[k]?)) (hp : Plus W W') : Hid (∀ k, k < rs.length * 9 → W'.cell? ⟨g, k, none⟩ = (rowC rs)[k]?) :=
  Lib.hid fun k hk => (World.cell?_of_block (w := W) (hp.below.block g hg)).trans (h.out k hk)
theorem ht_plus {W W' : World} {rs : List TR} (h : Hid (∀ r ∈ rs, TRM W r)) (hp : Plus W W') : Hid (∀ r ∈ rs, TRM W' r) := Lib.hid fun r hr => TkM.plus (h.out r hr) hp
theorem nl1_getd {L : List Tk} {k d : Nat} (h : k < L.length) : ((nl1 L).map (mv d))[k]? = some (mv d { L[k] with nl := L[k].nl || decide (k = 0) }) := by
  rw [List.getElem?_map]
  cases L with
  | nil => simp at h
  | cons t l =>
    cases k with
    | zero => simp [nl1]
    | succ k =>
      have hl : k < l.length := by simpa using h
      simp only [nl1, List.getElem?_cons_succ, List.getElem?_eq_getElem hl, List.getElem_cons_succ, Option.map_some, Nat.succ_ne_zero, decide_false, Bool.or_false]
def JnRel (M : Nat) (s14 : Value) : Prop := ∃ k : Nat, k ≤ M ∧ s14 = .int .i64 k

set_option maxRecDepth 100000 in
set_option maxHeartbeats 64000000 in
theorem joins_okz (A1 A2 : Option Addr) (xs ys : List Nat) (n c m d : Nat) (w : World) (HL : Hid (Lai w)) (ha : Hid (Ar .u16 65536 w A1 xs n c)) (hb : Hid (Ar .u16 65536 w A2 ys m d)) (hn : n ≤ 2000) (hm : m ≤ 2000) (dn : decide ((2000 : Int) < (n : Int)) = false) (dm : decide ((2000 : Int) < (m : Int)) = false) (h0m : m = 0) (acc : List Tk) (E : Tk) (L : List Tk) (hL0 : 0 < L.length) (hL1 : L.length ≤ 5000) (hA1 : acc.length ≤ 5000) (hN5 : ∀ T ∈ L, T.a ≤ 5000) (T1 : Hid (tokM xs = ⟨acc ++ [E], 0, 0⟩)) (T2 : Hid (tokM ys = ⟨L, 0, 0⟩)) (T3 : Hid (tokM (xs ++ 10 :: ys) = ⟨acc ++ (nl1 L).map (mv (xs.length + 1)), 0, 0⟩)) :
    Calls Tryd.prog 6 #[.slice A1 n c, .slice A2 m d] w fun e w' => e = .returned (.bool true) ∧ Plus w w' := by
  subst h0m
  obtain ⟨i0, hi, hz0, hz1, hz2⟩ := info_parts infoU16
  have hlen := Lib.hid ha.out.len
  have hlen2 := Lib.hid hb.out.len
  have hxl : xs.length ≤ 2000 := by have := ha.out.len; omega
  have hyl : ys.length ≤ 2000 := by have := hb.out.len; omega
  go_enter Tryd.func6, Tryd.ntmps6
  go_wp2_with (go_at_call 11; (with_reducible refine (first_c _ (Lib.hid (HL.out.plus (by repeat' (first | exact Plus.refl _ | refine Plus.alloc ?_ _ | refine Plus.plus ?_ _ | refine Plus.drew ?_ | refine Plus.drewN ?_ _))))).mono ?_); rintro e w1 ⟨rfl, ⟨y0, rfl⟩⟩)
  refine (tokR_c _ xs _ _ _ (ha.out.plus (by repeat' (first | exact Plus.refl _ | refine Plus.alloc ?_ _ | refine Plus.plus ?_ _ | refine Plus.drew ?_ | refine Plus.drewN ?_ _))) (by omega) (HL.out.plus (by repeat' (first | exact Plus.refl _ | refine Plus.alloc ?_ _ | refine Plus.plus ?_ _ | refine Plus.drew ?_ | refine Plus.drewN ?_ _)))).mono ?_
  rintro e w1 ⟨B1, d1, rs1, rfl, m1, k1, j1, R1, t1, ⟨y1, rfl⟩⟩
  rw [T1.out] at m1 ⊢
  dsimp only at m1 ⊢
  have M1 := Lib.hid m1
  have RR1 := Lib.hid R1
  have TT1 := Lib.hid t1
  clear m1 R1 t1
  go_wp2_with fail
  refine (tokR_c _ ys _ _ _ (hb.out.plus (by repeat' (first | exact Plus.refl _ | refine Plus.alloc ?_ _ | refine Plus.plus ?_ _ | refine Plus.drew ?_ | refine Plus.drewN ?_ _))) (by omega) (HL.out.plus (by repeat' (first | exact Plus.refl _ | refine Plus.alloc ?_ _ | refine Plus.plus ?_ _ | refine Plus.drew ?_ | refine Plus.drewN ?_ _)))).mono ?_
  rintro e w1 ⟨B2, d2, rs2, rfl, m2, k2, j2, R2, t2, ⟨y2, rfl⟩⟩
  rw [T2.out] at m2 ⊢
  dsimp only at m2 ⊢
  have M2 := Lib.hid m2
  have RR2 := Lib.hid R2
  have TT2 := Lib.hid t2
  clear m2 R2 t2
  go_wp2_with fail
  refine (copy_c _ xs _ _ _ (ha.out.plus (by repeat' (first | exact Plus.refl _ | refine Plus.alloc ?_ _ | refine Plus.plus ?_ _ | refine Plus.drew ?_ | refine Plus.drewN ?_ _))) (by omega)).mono ?_
  rintro e w1 ⟨vv, rfl, ho, ⟨z0, rfl⟩⟩
  have HO1 := Lib.hid ho
  clear ho
  go_wp2_with (first | (at_builtin; refine wpList_append_rd (by rfl) _ _ 25 rfl (plus (plus (plus w y0) y1) y2).heap.size 40 i0 (.int .u16 0) 2 .u16 Tryd.underlying25 hi hz0 hz1 hz2 (by decide) _ (xs ++ [10]) ys rfl HO2.out _ _ _ rfl hlen2.out (hb.out.rd.plus (by repeat' (first | exact Plus.refl _ | refine Plus.alloc ?_ _ | refine Plus.plus ?_ _ | refine Plus.drew ?_ | refine Plus.drewN ?_ _))) (by simp; unfold maxLen; omega) (by simp; omega) (by simp [go_sem]) ?_; intro v3 w3 hown3 hgr3; obtain ⟨z2, rfl⟩ := below_rd HO2.out (show Plus (plus (plus (plus w y0) y1) y2) _ from (by repeat' (first | exact Plus.refl _ | refine Plus.alloc ?_ _ | refine Plus.plus ?_ _ | refine Plus.drew ?_ | refine Plus.drewN ?_ _))) hgr3; have HO3 : Hid ((plus (plus (plus (plus w y0) y1) y2) z2).ownsRow (plus (plus (plus w y0) y1) y2).heap.size 40 1 v3 (xs ++ 10 :: ys).length (vals .u16 (xs ++ 10 :: ys))) := Lib.hid (own_join hown3); clear hown3 hgr3) | (at_builtin; refine wpList_append_own _ rfl _ _ 25 rfl (plus (plus (plus w y0) y1) y2).heap.size 40 i0 (.int .u16 0) 1 2 Tryd.underlying25 hi hz0 hz1 hz2 rfl (by decide) _ _ _ rfl (own_alloc HO1.out _) ⟨w.heap.size + y0.blocks.length + y1.blocks.length + y2.blocks.length + z0.blocks.length, 0, none⟩ 1 1 [.int .u16 10] rfl rfl (news_at' _ _ _ _ (by simp [go_sem])) (one_u16 [10]) (by unfold maxLen; omega) (by omega) (by simp [go_sem] <;> omega) ?_; intro v2 w2 hown2 hgr2 _; obtain ⟨z1, rfl⟩ := Plus.of_below (below_own HO1.out hgr2 (Plus.below (w := plus (plus (plus w y0) y1) y2) (by repeat' (first | exact Plus.refl _ | refine Plus.alloc ?_ _ | refine Plus.plus ?_ _ | refine Plus.drew ?_ | refine Plus.drewN ?_ _))) (by simp [go_sem])); have HO2 : Hid ((plus (plus (plus (plus w y0) y1) y2) z1).ownsRow (plus (plus (plus w y0) y1) y2).heap.size 40 1 v2 (xs ++ [10]).length (vals .u16 (xs ++ [10]))) := Lib.hid (by rw [vals_app, List.length_append]; exact hown2); clear hown2 hgr2))
  obtain ⟨C3, dd3, rfl, r1, r2, r3⟩ := rd_of_own HO3.out
  have hb3 : ∀ x ∈ xs ++ 10 :: ys, x < 65536 := fun x hx => by
    simp at hx
    rcases hx with h | rfl | h
    · exact ha.out.bd x h
    · decide
    · exact hb.out.bd x h
  have NB3 : Hid (Ar .u16 65536 _ C3 (xs ++ 10 :: ys) (xs ++ 10 :: ys).length dd3) := Lib.hid ⟨r3, rfl, r1, r2, hb3⟩
  clear r1 r2 r3 hb3
  refine (tokR_c C3 (xs ++ 10 :: ys) _ dd3 _ NB3.out (by simp; omega) (HL.out.plus (by repeat' (first | exact Plus.refl _ | refine Plus.alloc ?_ _ | refine Plus.plus ?_ _ | refine Plus.drew ?_ | refine Plus.drewN ?_ _)))).mono ?_
  rintro e w1 ⟨B3, d3, rs3, rfl, m3, k3, j3, R3, t3, ⟨y3, rfl⟩⟩
  rw [T3.out] at m3 ⊢
  dsimp only at m3 ⊢
  have M3 := Lib.hid m3
  have RR3 := Lib.hid R3
  have TT3 := Lib.hid t3
  clear m3 R3 t3
  have l1 : rs1.length = acc.length + 1 := by rw [len_of M1.out, List.length_append]; rfl
  have l2 : rs2.length = L.length := len_of M2.out
  have l3 : rs3.length = acc.length + L.length := by rw [len_of M3.out, List.length_append, List.length_map, nl1_len]
  obtain ⟨g1, eB1, hg1, hc1⟩ := RR1.out.plus (show Plus _ (plus (plus (plus (plus (plus w y0) y1) y2) z2) y3) from (by repeat' (first | exact Plus.refl _ | refine Plus.alloc ?_ _ | refine Plus.plus ?_ _ | refine Plus.drew ?_ | refine Plus.drewN ?_ _))) (by omega)
  obtain ⟨g2, eB2, hg2, hc2⟩ := RR2.out.plus (show Plus _ (plus (plus (plus (plus (plus w y0) y1) y2) z2) y3) from (by repeat' (first | exact Plus.refl _ | refine Plus.alloc ?_ _ | refine Plus.plus ?_ _ | refine Plus.drew ?_ | refine Plus.drewN ?_ _))) (by omega)
  obtain ⟨g3, eB3, hg3, hc3⟩ := RR3.out (by omega)
  subst eB1 eB2 eB3
  have HC1 := Lib.hid hc1
  have HC2 := Lib.hid hc2
  have HC3 := Lib.hid hc3
  have I1 : Old g1 (plus (plus (plus (plus (plus w y0) y1) y2) z2) y3) := ⟨hg1⟩
  have I2 : Old g2 (plus (plus (plus (plus (plus w y0) y1) y2) z2) y3) := ⟨hg2⟩
  have I3 : Old g3 (plus (plus (plus (plus (plus w y0) y1) y2) z2) y3) := ⟨hg3⟩
  have TW1 := ht_plus TT1 (show Plus _ (plus (plus (plus (plus (plus w y0) y1) y2) z2) y3) from (by repeat' (first | exact Plus.refl _ | refine Plus.alloc ?_ _ | refine Plus.plus ?_ _ | refine Plus.drew ?_ | refine Plus.drewN ?_ _)))
  have TW2 := ht_plus TT2 (show Plus _ (plus (plus (plus (plus (plus w y0) y1) y2) z2) y3) from (by repeat' (first | exact Plus.refl _ | refine Plus.alloc ?_ _ | refine Plus.plus ?_ _ | refine Plus.drew ?_ | refine Plus.drewN ?_ _)))
  have TW3 := TT3
  have HNL : Hid (n = xs.length) := hlen
  have HEQ : Hid (∀ k (q1 : k < rs3.length) (q2 : k < rs1.length), k < acc.length → rs3[k].t = rs1[k].t) := Lib.hid (fun k q1 q2 q => by
    rw [el_of M3.out q1 (x := acc[k]) (by rw [List.getElem?_append_left q, List.getElem?_eq_getElem q]), el_of M1.out q2 (x := acc[k]) (by rw [List.getElem?_append_left q, List.getElem?_eq_getElem q])])
  obtain ⟨P, hPe⟩ : ∃ P, acc.length = P := ⟨_, rfl⟩
  obtain ⟨M, hMe⟩ : ∃ M, L.length = M := ⟨_, rfl⟩
  rw [hPe] at l1 l3 HEQ hA1
  rw [hMe] at l2 l3 hL0 hL1
  have E1 := Lib.hid l1
  have E2 := Lib.hid l2
  have E3 := Lib.hid l3
  have n1 : P ≤ rs1.length := by omega
  have n3 : P ≤ rs3.length := by omega
  have hP : P ≤ 5000 := hA1
  have hM1 : M ≤ 5000 := hL1
  have c2 : (P : Int) ≤ (d3 : Int) := by omega
  have c3 : (P : Int) ≤ (d1 : Int) := by omega
  have HP := Lib.hid hPe
  have HM := Lib.hid hMe
  rw [l1, l2, l3]
  have b0 : ((P : Int) + 1 == 0) = false := by simp; omega
  have hw1 : IntKind.i64.wrap ((P : Int) + 1 - 1) = P := by rw [IntWalk.i64_in _ (by omega)]; omega
  have hw2 : IntKind.i64.wrap ((P : Int) + (M : Int)) = (P : Int) + M := IntWalk.i64_in _ (by omega)
  have c1 : (0 : Int) ≤ (P : Int) := by omega
  clear hc1 hc2 hc3 hPe hMe l1 l2 l3
  go_wp2_with fail
  refine wp_region_plus (by kernel_rfl) (by kernel_rfl) ?_
  repeat (go_big_quiet_step (((go_at_call 23; with_reducible exact calls_plus (rtoks_c g3 g1 P d3 d1 rs3 rs1 _ (lt_plus hg3 (by repeat' (first | exact Plus.refl _ | refine Plus.alloc ?_ _ | refine Plus.plus ?_ _ | refine Plus.drew ?_ | refine Plus.drewN ?_ _))) (lt_plus hg1 (by repeat' (first | exact Plus.refl _ | refine Plus.alloc ?_ _ | refine Plus.plus ?_ _ | refine Plus.drew ?_ | refine Plus.drewN ?_ _))) (hc_plus hg3 HC3 (by repeat' (first | exact Plus.refl _ | refine Plus.alloc ?_ _ | refine Plus.plus ?_ _ | refine Plus.drew ?_ | refine Plus.drewN ?_ _))) (hc_plus hg1 HC1 (by repeat' (first | exact Plus.refl _ | refine Plus.alloc ?_ _ | refine Plus.plus ?_ _ | refine Plus.drew ?_ | refine Plus.drewN ?_ _))) (ht_plus TW3 (by repeat' (first | exact Plus.refl _ | refine Plus.alloc ?_ _ | refine Plus.plus ?_ _ | refine Plus.drew ?_ | refine Plus.drewN ?_ _))) (ht_plus TW1 (by repeat' (first | exact Plus.refl _ | refine Plus.alloc ?_ _ | refine Plus.plus ?_ _ | refine Plus.drew ?_ | refine Plus.drewN ?_ _))) n3 n1 hP HEQ)))))
  refine wpQuiet_nil ?_
  intro _ hw'
  obtain ⟨xa, rfl⟩ := hw'
  clear hw1 hw2
  go_wp2_with fail
  go_loopw [14] (fun s14 wr => JnRel M s14 ∧ Plus (plus (plus (plus (plus (plus w y0) y1) y2) z2) y3) wr) (fun s14 _ => ((M : Int) - intOf s14).toNat)
  case atStart => exact ⟨⟨0, by omega, rfl⟩, (by repeat' (first | exact Plus.refl _ | refine Plus.alloc ?_ _ | refine Plus.plus ?_ _ | refine Plus.drew ?_ | refine Plus.drewN ?_ _))⟩
  case round =>
    obtain ⟨⟨k, hk, rfl⟩, hp⟩ := hrel
    obtain ⟨x0, rfl⟩ := hp
    by_cases hlt : k < M
    · have kL : k < L.length := by have := HM.out; omega
      have i2 : k < rs2.length := by have := E2.out; omega
      have i3 : P + k < rs3.length := by have := E3.out; omega
      have f2 : rs2[k].t = L[k] := el_of M2.out i2 (List.getElem?_eq_getElem kL)
      have f3 : rs3[P + k].t = mv (xs.length + 1) { L[k] with nl := L[k].nl || decide (k = 0) } := el_of M3.out i3 (by
        have hPo := HP.out
        rw [List.getElem?_append_right (by omega), show P + k - acc.length = k by omega]
        exact nl1_getd kL)
      have t2' := TW2.out _ (List.getElem_mem i2)
      have t3' := TW3.out _ (List.getElem_mem i3)
      obtain ⟨⟨tk, tt, ts, tnk, tn, tb, ta, tnl⟩, hT⟩ : ∃ T, L[k] = T := ⟨_, rfl⟩
      rw [hT] at f2 f3
      obtain ⟨r2, h2⟩ : ∃ r, rs2[k] = r := ⟨_, rfl⟩
      obtain ⟨r3, h3⟩ : ∃ r, rs3[P + k] = r := ⟨_, rfl⟩
      rw [h2] at f2 t2'
      rw [h3] at f3 t3'
      obtain ⟨u2, As2, cs2, Am2, cm2⟩ := r2
      obtain ⟨u3, As3, cs3, Am3, cm3⟩ := r3
      dsimp only at f2 f3
      subst f2 f3
      have hta : ta ≤ 5000 := by
        have q := hN5 _ (List.getElem_mem kL)
        rw [hT] at q
        exact q
      obtain ⟨za, hza⟩ : ∃ z : Int, z = (ta : Int) := ⟨_, rfl⟩
      have hza0 : 0 ≤ za := by omega
      have hza1 : za ≤ 5000 := by omega
      have cz : ((ta + (xs.length + 1) : Nat) : Int) = za + ((n : Int) + 1) := by have := HNL.out; omega
      have p20 : (plus (plus (plus (plus (plus w y0) y1) y2) z2) y3).cell? ⟨g2, k * 9, none⟩ = some (.int .i64 tk) := by have q := row_cell HC2.out (i := k) (j := 0) (by omega) (by decide); rw [h2] at q; (first | exact q | (rw [hza]; exact q))
      have p21 : (plus (plus (plus (plus (plus w y0) y1) y2) z2) y3).cell? ⟨g2, k * 9 + 1, none⟩ = some (.string tt) := by have q := row_cell HC2.out (i := k) (j := 1) (by omega) (by decide); rw [h2] at q; (first | exact q | (rw [hza]; exact q))
      have p22 : (plus (plus (plus (plus (plus w y0) y1) y2) z2) y3).cell? ⟨g2, k * 9 + 2, none⟩ = some (.slice As2 ts.length cs2) := by have q := row_cell HC2.out (i := k) (j := 2) (by omega) (by decide); rw [h2] at q; (first | exact q | (rw [hza]; exact q))
      have p23 : (plus (plus (plus (plus (plus w y0) y1) y2) z2) y3).cell? ⟨g2, k * 9 + 3, none⟩ = some (.int .i64 tnk) := by have q := row_cell HC2.out (i := k) (j := 3) (by omega) (by decide); rw [h2] at q; (first | exact q | (rw [hza]; exact q))
      have p24 : (plus (plus (plus (plus (plus w y0) y1) y2) z2) y3).cell? ⟨g2, k * 9 + 4, none⟩ = some (.int .i64 tn) := by have q := row_cell HC2.out (i := k) (j := 4) (by omega) (by decide); rw [h2] at q; (first | exact q | (rw [hza]; exact q))
      have p25 : (plus (plus (plus (plus (plus w y0) y1) y2) z2) y3).cell? ⟨g2, k * 9 + 5, none⟩ = some (.bool (decide (tb < 0))) := by have q := row_cell HC2.out (i := k) (j := 5) (by omega) (by decide); rw [h2] at q; (first | exact q | (rw [hza]; exact q))
      have p26 : (plus (plus (plus (plus (plus w y0) y1) y2) z2) y3).cell? ⟨g2, k * 9 + 6, none⟩ = some (.slice Am2 (Bg.dig tb.natAbs).length cm2) := by have q := row_cell HC2.out (i := k) (j := 6) (by omega) (by decide); rw [h2] at q; (first | exact q | (rw [hza]; exact q))
      have p27 : (plus (plus (plus (plus (plus w y0) y1) y2) z2) y3).cell? ⟨g2, k * 9 + 7, none⟩ = some (.int .i64 za) := by have q := row_cell HC2.out (i := k) (j := 7) (by omega) (by decide); rw [h2] at q; (first | exact q | (rw [hza]; exact q))
      have p28 : (plus (plus (plus (plus (plus w y0) y1) y2) z2) y3).cell? ⟨g2, k * 9 + 8, none⟩ = some (.bool tnl) := by have q := row_cell HC2.out (i := k) (j := 8) (by omega) (by decide); rw [h2] at q; (first | exact q | (rw [hza]; exact q))
      have p30 : (plus (plus (plus (plus (plus w y0) y1) y2) z2) y3).cell? ⟨g3, (P + k) * 9, none⟩ = some (.int .i64 tk) := by have q := row_cell HC3.out (i := (P + k)) (j := 0) (by omega) (by decide); rw [h3] at q; (first | exact q | (rw [← cz]; exact q))
      have p31 : (plus (plus (plus (plus (plus w y0) y1) y2) z2) y3).cell? ⟨g3, (P + k) * 9 + 1, none⟩ = some (.string tt) := by have q := row_cell HC3.out (i := (P + k)) (j := 1) (by omega) (by decide); rw [h3] at q; (first | exact q | (rw [← cz]; exact q))
      have p32 : (plus (plus (plus (plus (plus w y0) y1) y2) z2) y3).cell? ⟨g3, (P + k) * 9 + 2, none⟩ = some (.slice As3 ts.length cs3) := by have q := row_cell HC3.out (i := (P + k)) (j := 2) (by omega) (by decide); rw [h3] at q; (first | exact q | (rw [← cz]; exact q))
      have p33 : (plus (plus (plus (plus (plus w y0) y1) y2) z2) y3).cell? ⟨g3, (P + k) * 9 + 3, none⟩ = some (.int .i64 tnk) := by have q := row_cell HC3.out (i := (P + k)) (j := 3) (by omega) (by decide); rw [h3] at q; (first | exact q | (rw [← cz]; exact q))
      have p34 : (plus (plus (plus (plus (plus w y0) y1) y2) z2) y3).cell? ⟨g3, (P + k) * 9 + 4, none⟩ = some (.int .i64 tn) := by have q := row_cell HC3.out (i := (P + k)) (j := 4) (by omega) (by decide); rw [h3] at q; (first | exact q | (rw [← cz]; exact q))
      have p35 : (plus (plus (plus (plus (plus w y0) y1) y2) z2) y3).cell? ⟨g3, (P + k) * 9 + 5, none⟩ = some (.bool (decide (tb < 0))) := by have q := row_cell HC3.out (i := (P + k)) (j := 5) (by omega) (by decide); rw [h3] at q; (first | exact q | (rw [← cz]; exact q))
      have p36 : (plus (plus (plus (plus (plus w y0) y1) y2) z2) y3).cell? ⟨g3, (P + k) * 9 + 6, none⟩ = some (.slice Am3 (Bg.dig tb.natAbs).length cm3) := by have q := row_cell HC3.out (i := (P + k)) (j := 6) (by omega) (by decide); rw [h3] at q; (first | exact q | (rw [← cz]; exact q))
      have p37 : (plus (plus (plus (plus (plus w y0) y1) y2) z2) y3).cell? ⟨g3, (P + k) * 9 + 7, none⟩ = some (.int .i64 (za + ((n : Int) + 1))) := by have q := row_cell HC3.out (i := (P + k)) (j := 7) (by omega) (by decide); rw [h3] at q; (first | exact q | (rw [← cz]; exact q))
      have p38 : (plus (plus (plus (plus (plus w y0) y1) y2) z2) y3).cell? ⟨g3, (P + k) * 9 + 8, none⟩ = some (.bool (tnl || decide (k = 0))) := by have q := row_cell HC3.out (i := (P + k)) (j := 8) (by omega) (by decide); rw [h3] at q; (first | exact q | (rw [← cz]; exact q))
      have K2 : Hid (TkM (plus (plus (plus (plus (plus w y0) y1) y2) z2) y3) ts tb As2 cs2 Am2 cm2) := Lib.hid t2'
      have K3 : Hid (TkM (plus (plus (plus (plus (plus w y0) y1) y2) z2) y3) ts tb As3 cs3 Am3 cm3) := Lib.hid t3'
      have hw1 : IntKind.i64.wrap ((P : Int) + 1 - 1) = P := by rw [IntWalk.i64_in _ (by omega)]; omega
      have hw3 : IntKind.i64.wrap ((P : Int) + (k : Int)) = (P : Int) + k := IntWalk.i64_in _ (by omega)
      have c5 : (0 : Int) ≤ (P : Int) + (k : Int) := by omega
      have c6 : ((P : Int) + (k : Int)).toNat = P + k := by omega
      have c7 : (P : Int) + (k : Int) < (P : Int) + (M : Int) := by omega
      clear t2' t3' h2 h3 hT hta hza cz i2 i3 kL
      have hcs : tnl = true ∧ (tnl || decide (k = 0)) = true ∨ tnl = false ∧ ((k : Int) == 0) = true ∧ (tnl || decide (k = 0)) = true ∨ tnl = false ∧ ((k : Int) == 0) = false ∧ (tnl || decide (k = 0)) = false := by
        cases tnl
        · by_cases k0 : k = 0
          · right; left; simp [k0]
          · right; right; simp [k0]
        · left; simp
      rcases hcs with ⟨rfl, b2⟩ | ⟨rfl, b1, b2⟩ | ⟨rfl, b1, b2⟩
      all_goals
        rw [b2] at p38
        clear b2
        go_wp2_with fail
        refine wp_region_plus (by kernel_rfl) (by kernel_rfl) ?_
        repeat (go_big_quiet_step ((first | (go_at_call 21; with_reducible exact calls_plus (rtok_z tk tnk tn tb (za + ((n : Int) + 1)) tt ts (decide (tb < 0)) true As3 As2 cs3 cs2 Am3 Am2 cm3 cm2 _ (K3.out.plus (by repeat' (first | exact Plus.refl _ | refine Plus.alloc ?_ _ | refine Plus.plus ?_ _ | refine Plus.drew ?_ | refine Plus.drewN ?_ _))) (K2.out.plus (by repeat' (first | exact Plus.refl _ | refine Plus.alloc ?_ _ | refine Plus.plus ?_ _ | refine Plus.drew ?_ | refine Plus.drewN ?_ _))))) | (go_at_call 21; with_reducible exact calls_plus (rtok_z tk tnk tn tb (za + ((n : Int) + 1)) tt ts (decide (tb < 0)) false As3 As2 cs3 cs2 Am3 Am2 cm3 cm2 _ (K3.out.plus (by repeat' (first | exact Plus.refl _ | refine Plus.alloc ?_ _ | refine Plus.plus ?_ _ | refine Plus.drew ?_ | refine Plus.drewN ?_ _))) (K2.out.plus (by repeat' (first | exact Plus.refl _ | refine Plus.alloc ?_ _ | refine Plus.plus ?_ _ | refine Plus.drew ?_ | refine Plus.drewN ?_ _))))))))
        refine wpQuiet_nil ?_
        intro _ hw'
        obtain ⟨x9, rfl⟩ := hw'
        clear hw1 hw3 c6
        go_wp2_with fail
        go_roundw
        case rel => exact ⟨⟨k + 1, hlt, by rw [show ((k + 1 : Nat) : Int) = (k : Int) + 1 by omega]⟩, (by repeat' (first | exact Plus.refl _ | refine Plus.alloc ?_ _ | refine Plus.plus ?_ _ | refine Plus.drew ?_ | refine Plus.drewN ?_ _))⟩
        case measure => simp [intOf]; omega
    · obtain rfl : k = M := by omega
      go_wp2_with (first | (go_at_call 11; (with_reducible refine (first_c _ (Lib.hid (HL.out.plus (by repeat' (first | exact Plus.refl _ | refine Plus.alloc ?_ _ | refine Plus.plus ?_ _ | refine Plus.drew ?_ | refine Plus.drewN ?_ _))))).mono ?_); rintro e w1 ⟨rfl, ⟨y5, rfl⟩⟩))
      go_ret
      exact ⟨rfl, (by repeat' (first | exact Plus.refl _ | refine Plus.alloc ?_ _ | refine Plus.plus ?_ _ | refine Plus.drew ?_ | refine Plus.drewN ?_ _))⟩

set_option maxRecDepth 100000 in
set_option maxHeartbeats 64000000 in
theorem joins_okp (A1 A2 : Option Addr) (xs ys : List Nat) (n c m d : Nat) (w : World) (HL : Hid (Lai w)) (ha : Hid (Ar .u16 65536 w A1 xs n c)) (hb : Hid (Ar .u16 65536 w A2 ys m d)) (hn : n ≤ 2000) (hm : m ≤ 2000) (dn : decide ((2000 : Int) < (n : Int)) = false) (dm : decide ((2000 : Int) < (m : Int)) = false) (g o v : Nat) (h0m : 0 < m) (hA : A2 = some ⟨g, o, none⟩) (I0 : Old g w) (hv0 : w.cell? ⟨g, o, none⟩ = some (.int .u16 (v : Nat))) (h35 : ((v : Int) == 35) = false) (acc : List Tk) (E : Tk) (L : List Tk) (hL0 : 0 < L.length) (hL1 : L.length ≤ 5000) (hA1 : acc.length ≤ 5000) (hN5 : ∀ T ∈ L, T.a ≤ 5000) (T1 : Hid (tokM xs = ⟨acc ++ [E], 0, 0⟩)) (T2 : Hid (tokM ys = ⟨L, 0, 0⟩)) (T3 : Hid (tokM (xs ++ 10 :: ys) = ⟨acc ++ (nl1 L).map (mv (xs.length + 1)), 0, 0⟩)) :
    Calls Tryd.prog 6 #[.slice A1 n c, .slice A2 m d] w fun e w' => e = .returned (.bool true) ∧ Plus w w' := by
  subst hA
  obtain ⟨i0, hi, hz0, hz1, hz2⟩ := info_parts infoU16
  have hlen := Lib.hid ha.out.len
  have hlen2 := Lib.hid hb.out.len
  have hxl : xs.length ≤ 2000 := by have := ha.out.len; omega
  have hyl : ys.length ≤ 2000 := by have := hb.out.len; omega
  go_enter Tryd.func6, Tryd.ntmps6
  go_wp2_with (go_at_call 11; (with_reducible refine (first_c _ (Lib.hid (HL.out.plus (by repeat' (first | exact Plus.refl _ | refine Plus.alloc ?_ _ | refine Plus.plus ?_ _ | refine Plus.drew ?_ | refine Plus.drewN ?_ _))))).mono ?_); rintro e w1 ⟨rfl, ⟨y0, rfl⟩⟩)
  refine (tokR_c _ xs _ _ _ (ha.out.plus (by repeat' (first | exact Plus.refl _ | refine Plus.alloc ?_ _ | refine Plus.plus ?_ _ | refine Plus.drew ?_ | refine Plus.drewN ?_ _))) (by omega) (HL.out.plus (by repeat' (first | exact Plus.refl _ | refine Plus.alloc ?_ _ | refine Plus.plus ?_ _ | refine Plus.drew ?_ | refine Plus.drewN ?_ _)))).mono ?_
  rintro e w1 ⟨B1, d1, rs1, rfl, m1, k1, j1, R1, t1, ⟨y1, rfl⟩⟩
  rw [T1.out] at m1 ⊢
  dsimp only at m1 ⊢
  have M1 := Lib.hid m1
  have RR1 := Lib.hid R1
  have TT1 := Lib.hid t1
  clear m1 R1 t1
  go_wp2_with fail
  refine (tokR_c _ ys _ _ _ (hb.out.plus (by repeat' (first | exact Plus.refl _ | refine Plus.alloc ?_ _ | refine Plus.plus ?_ _ | refine Plus.drew ?_ | refine Plus.drewN ?_ _))) (by omega) (HL.out.plus (by repeat' (first | exact Plus.refl _ | refine Plus.alloc ?_ _ | refine Plus.plus ?_ _ | refine Plus.drew ?_ | refine Plus.drewN ?_ _)))).mono ?_
  rintro e w1 ⟨B2, d2, rs2, rfl, m2, k2, j2, R2, t2, ⟨y2, rfl⟩⟩
  rw [T2.out] at m2 ⊢
  dsimp only at m2 ⊢
  have M2 := Lib.hid m2
  have RR2 := Lib.hid R2
  have TT2 := Lib.hid t2
  clear m2 R2 t2
  go_wp2_with fail
  refine (copy_c _ xs _ _ _ (ha.out.plus (by repeat' (first | exact Plus.refl _ | refine Plus.alloc ?_ _ | refine Plus.plus ?_ _ | refine Plus.drew ?_ | refine Plus.drewN ?_ _))) (by omega)).mono ?_
  rintro e w1 ⟨vv, rfl, ho, ⟨z0, rfl⟩⟩
  have HO1 := Lib.hid ho
  clear ho
  go_wp2_with (first | (at_builtin; refine wpList_append_rd (by rfl) _ _ 25 rfl (plus (plus (plus w y0) y1) y2).heap.size 40 i0 (.int .u16 0) 2 .u16 Tryd.underlying25 hi hz0 hz1 hz2 (by decide) _ (xs ++ [10]) ys rfl HO2.out _ _ _ rfl hlen2.out (hb.out.rd.plus (by repeat' (first | exact Plus.refl _ | refine Plus.alloc ?_ _ | refine Plus.plus ?_ _ | refine Plus.drew ?_ | refine Plus.drewN ?_ _))) (by simp; unfold maxLen; omega) (by simp; omega) (by simp [go_sem]) ?_; intro v3 w3 hown3 hgr3; obtain ⟨z2, rfl⟩ := below_rd HO2.out (show Plus (plus (plus (plus w y0) y1) y2) _ from (by repeat' (first | exact Plus.refl _ | refine Plus.alloc ?_ _ | refine Plus.plus ?_ _ | refine Plus.drew ?_ | refine Plus.drewN ?_ _))) hgr3; have HO3 : Hid ((plus (plus (plus (plus w y0) y1) y2) z2).ownsRow (plus (plus (plus w y0) y1) y2).heap.size 40 1 v3 (xs ++ 10 :: ys).length (vals .u16 (xs ++ 10 :: ys))) := Lib.hid (own_join hown3); clear hown3 hgr3) | (at_builtin; refine wpList_append_own _ rfl _ _ 25 rfl (plus (plus (plus w y0) y1) y2).heap.size 40 i0 (.int .u16 0) 1 2 Tryd.underlying25 hi hz0 hz1 hz2 rfl (by decide) _ _ _ rfl (own_alloc HO1.out _) ⟨w.heap.size + y0.blocks.length + y1.blocks.length + y2.blocks.length + z0.blocks.length, 0, none⟩ 1 1 [.int .u16 10] rfl rfl (news_at' _ _ _ _ (by simp [go_sem])) (one_u16 [10]) (by unfold maxLen; omega) (by omega) (by simp [go_sem] <;> omega) ?_; intro v2 w2 hown2 hgr2 _; obtain ⟨z1, rfl⟩ := Plus.of_below (below_own HO1.out hgr2 (Plus.below (w := plus (plus (plus w y0) y1) y2) (by repeat' (first | exact Plus.refl _ | refine Plus.alloc ?_ _ | refine Plus.plus ?_ _ | refine Plus.drew ?_ | refine Plus.drewN ?_ _))) (by simp [go_sem])); have HO2 : Hid ((plus (plus (plus (plus w y0) y1) y2) z1).ownsRow (plus (plus (plus w y0) y1) y2).heap.size 40 1 v2 (xs ++ [10]).length (vals .u16 (xs ++ [10]))) := Lib.hid (by rw [vals_app, List.length_append]; exact hown2); clear hown2 hgr2))
  obtain ⟨C3, dd3, rfl, r1, r2, r3⟩ := rd_of_own HO3.out
  have hb3 : ∀ x ∈ xs ++ 10 :: ys, x < 65536 := fun x hx => by
    simp at hx
    rcases hx with h | rfl | h
    · exact ha.out.bd x h
    · decide
    · exact hb.out.bd x h
  have NB3 : Hid (Ar .u16 65536 _ C3 (xs ++ 10 :: ys) (xs ++ 10 :: ys).length dd3) := Lib.hid ⟨r3, rfl, r1, r2, hb3⟩
  clear r1 r2 r3 hb3
  refine (tokR_c C3 (xs ++ 10 :: ys) _ dd3 _ NB3.out (by simp; omega) (HL.out.plus (by repeat' (first | exact Plus.refl _ | refine Plus.alloc ?_ _ | refine Plus.plus ?_ _ | refine Plus.drew ?_ | refine Plus.drewN ?_ _)))).mono ?_
  rintro e w1 ⟨B3, d3, rs3, rfl, m3, k3, j3, R3, t3, ⟨y3, rfl⟩⟩
  rw [T3.out] at m3 ⊢
  dsimp only at m3 ⊢
  have M3 := Lib.hid m3
  have RR3 := Lib.hid R3
  have TT3 := Lib.hid t3
  clear m3 R3 t3
  have l1 : rs1.length = acc.length + 1 := by rw [len_of M1.out, List.length_append]; rfl
  have l2 : rs2.length = L.length := len_of M2.out
  have l3 : rs3.length = acc.length + L.length := by rw [len_of M3.out, List.length_append, List.length_map, nl1_len]
  obtain ⟨g1, eB1, hg1, hc1⟩ := RR1.out.plus (show Plus _ (plus (plus (plus (plus (plus w y0) y1) y2) z2) y3) from (by repeat' (first | exact Plus.refl _ | refine Plus.alloc ?_ _ | refine Plus.plus ?_ _ | refine Plus.drew ?_ | refine Plus.drewN ?_ _))) (by omega)
  obtain ⟨g2, eB2, hg2, hc2⟩ := RR2.out.plus (show Plus _ (plus (plus (plus (plus (plus w y0) y1) y2) z2) y3) from (by repeat' (first | exact Plus.refl _ | refine Plus.alloc ?_ _ | refine Plus.plus ?_ _ | refine Plus.drew ?_ | refine Plus.drewN ?_ _))) (by omega)
  obtain ⟨g3, eB3, hg3, hc3⟩ := RR3.out (by omega)
  subst eB1 eB2 eB3
  have HC1 := Lib.hid hc1
  have HC2 := Lib.hid hc2
  have HC3 := Lib.hid hc3
  have I1 : Old g1 (plus (plus (plus (plus (plus w y0) y1) y2) z2) y3) := ⟨hg1⟩
  have I2 : Old g2 (plus (plus (plus (plus (plus w y0) y1) y2) z2) y3) := ⟨hg2⟩
  have I3 : Old g3 (plus (plus (plus (plus (plus w y0) y1) y2) z2) y3) := ⟨hg3⟩
  have TW1 := ht_plus TT1 (show Plus _ (plus (plus (plus (plus (plus w y0) y1) y2) z2) y3) from (by repeat' (first | exact Plus.refl _ | refine Plus.alloc ?_ _ | refine Plus.plus ?_ _ | refine Plus.drew ?_ | refine Plus.drewN ?_ _)))
  have TW2 := ht_plus TT2 (show Plus _ (plus (plus (plus (plus (plus w y0) y1) y2) z2) y3) from (by repeat' (first | exact Plus.refl _ | refine Plus.alloc ?_ _ | refine Plus.plus ?_ _ | refine Plus.drew ?_ | refine Plus.drewN ?_ _)))
  have TW3 := TT3
  have HNL : Hid (n = xs.length) := hlen
  have HEQ : Hid (∀ k (q1 : k < rs3.length) (q2 : k < rs1.length), k < acc.length → rs3[k].t = rs1[k].t) := Lib.hid (fun k q1 q2 q => by
    rw [el_of M3.out q1 (x := acc[k]) (by rw [List.getElem?_append_left q, List.getElem?_eq_getElem q]), el_of M1.out q2 (x := acc[k]) (by rw [List.getElem?_append_left q, List.getElem?_eq_getElem q])])
  obtain ⟨P, hPe⟩ : ∃ P, acc.length = P := ⟨_, rfl⟩
  obtain ⟨M, hMe⟩ : ∃ M, L.length = M := ⟨_, rfl⟩
  rw [hPe] at l1 l3 HEQ hA1
  rw [hMe] at l2 l3 hL0 hL1
  have E1 := Lib.hid l1
  have E2 := Lib.hid l2
  have E3 := Lib.hid l3
  have n1 : P ≤ rs1.length := by omega
  have n3 : P ≤ rs3.length := by omega
  have hP : P ≤ 5000 := hA1
  have hM1 : M ≤ 5000 := hL1
  have c2 : (P : Int) ≤ (d3 : Int) := by omega
  have c3 : (P : Int) ≤ (d1 : Int) := by omega
  have HP := Lib.hid hPe
  have HM := Lib.hid hMe
  rw [l1, l2, l3]
  have b0 : ((P : Int) + 1 == 0) = false := by simp; omega
  have hw1 : IntKind.i64.wrap ((P : Int) + 1 - 1) = P := by rw [IntWalk.i64_in _ (by omega)]; omega
  have hw2 : IntKind.i64.wrap ((P : Int) + (M : Int)) = (P : Int) + M := IntWalk.i64_in _ (by omega)
  have c1 : (0 : Int) ≤ (P : Int) := by omega
  clear hc1 hc2 hc3 hPe hMe l1 l2 l3
  go_wp2_with fail
  refine wp_region_plus (by kernel_rfl) (by kernel_rfl) ?_
  repeat (go_big_quiet_step (((go_at_call 23; with_reducible exact calls_plus (rtoks_c g3 g1 P d3 d1 rs3 rs1 _ (lt_plus hg3 (by repeat' (first | exact Plus.refl _ | refine Plus.alloc ?_ _ | refine Plus.plus ?_ _ | refine Plus.drew ?_ | refine Plus.drewN ?_ _))) (lt_plus hg1 (by repeat' (first | exact Plus.refl _ | refine Plus.alloc ?_ _ | refine Plus.plus ?_ _ | refine Plus.drew ?_ | refine Plus.drewN ?_ _))) (hc_plus hg3 HC3 (by repeat' (first | exact Plus.refl _ | refine Plus.alloc ?_ _ | refine Plus.plus ?_ _ | refine Plus.drew ?_ | refine Plus.drewN ?_ _))) (hc_plus hg1 HC1 (by repeat' (first | exact Plus.refl _ | refine Plus.alloc ?_ _ | refine Plus.plus ?_ _ | refine Plus.drew ?_ | refine Plus.drewN ?_ _))) (ht_plus TW3 (by repeat' (first | exact Plus.refl _ | refine Plus.alloc ?_ _ | refine Plus.plus ?_ _ | refine Plus.drew ?_ | refine Plus.drewN ?_ _))) (ht_plus TW1 (by repeat' (first | exact Plus.refl _ | refine Plus.alloc ?_ _ | refine Plus.plus ?_ _ | refine Plus.drew ?_ | refine Plus.drewN ?_ _))) n3 n1 hP HEQ)))))
  refine wpQuiet_nil ?_
  intro _ hw'
  obtain ⟨xa, rfl⟩ := hw'
  clear hw1 hw2
  go_wp2_with fail
  go_loopw [14] (fun s14 wr => JnRel M s14 ∧ Plus (plus (plus (plus (plus (plus w y0) y1) y2) z2) y3) wr) (fun s14 _ => ((M : Int) - intOf s14).toNat)
  case atStart => exact ⟨⟨0, by omega, rfl⟩, (by repeat' (first | exact Plus.refl _ | refine Plus.alloc ?_ _ | refine Plus.plus ?_ _ | refine Plus.drew ?_ | refine Plus.drewN ?_ _))⟩
  case round =>
    obtain ⟨⟨k, hk, rfl⟩, hp⟩ := hrel
    obtain ⟨x0, rfl⟩ := hp
    by_cases hlt : k < M
    · have kL : k < L.length := by have := HM.out; omega
      have i2 : k < rs2.length := by have := E2.out; omega
      have i3 : P + k < rs3.length := by have := E3.out; omega
      have f2 : rs2[k].t = L[k] := el_of M2.out i2 (List.getElem?_eq_getElem kL)
      have f3 : rs3[P + k].t = mv (xs.length + 1) { L[k] with nl := L[k].nl || decide (k = 0) } := el_of M3.out i3 (by
        have hPo := HP.out
        rw [List.getElem?_append_right (by omega), show P + k - acc.length = k by omega]
        exact nl1_getd kL)
      have t2' := TW2.out _ (List.getElem_mem i2)
      have t3' := TW3.out _ (List.getElem_mem i3)
      obtain ⟨⟨tk, tt, ts, tnk, tn, tb, ta, tnl⟩, hT⟩ : ∃ T, L[k] = T := ⟨_, rfl⟩
      rw [hT] at f2 f3
      obtain ⟨r2, h2⟩ : ∃ r, rs2[k] = r := ⟨_, rfl⟩
      obtain ⟨r3, h3⟩ : ∃ r, rs3[P + k] = r := ⟨_, rfl⟩
      rw [h2] at f2 t2'
      rw [h3] at f3 t3'
      obtain ⟨u2, As2, cs2, Am2, cm2⟩ := r2
      obtain ⟨u3, As3, cs3, Am3, cm3⟩ := r3
      dsimp only at f2 f3
      subst f2 f3
      have hta : ta ≤ 5000 := by
        have q := hN5 _ (List.getElem_mem kL)
        rw [hT] at q
        exact q
      obtain ⟨za, hza⟩ : ∃ z : Int, z = (ta : Int) := ⟨_, rfl⟩
      have hza0 : 0 ≤ za := by omega
      have hza1 : za ≤ 5000 := by omega
      have cz : ((ta + (xs.length + 1) : Nat) : Int) = za + ((n : Int) + 1) := by have := HNL.out; omega
      have p20 : (plus (plus (plus (plus (plus w y0) y1) y2) z2) y3).cell? ⟨g2, k * 9, none⟩ = some (.int .i64 tk) := by have q := row_cell HC2.out (i := k) (j := 0) (by omega) (by decide); rw [h2] at q; (first | exact q | (rw [hza]; exact q))
      have p21 : (plus (plus (plus (plus (plus w y0) y1) y2) z2) y3).cell? ⟨g2, k * 9 + 1, none⟩ = some (.string tt) := by have q := row_cell HC2.out (i := k) (j := 1) (by omega) (by decide); rw [h2] at q; (first | exact q | (rw [hza]; exact q))
      have p22 : (plus (plus (plus (plus (plus w y0) y1) y2) z2) y3).cell? ⟨g2, k * 9 + 2, none⟩ = some (.slice As2 ts.length cs2) := by have q := row_cell HC2.out (i := k) (j := 2) (by omega) (by decide); rw [h2] at q; (first | exact q | (rw [hza]; exact q))
      have p23 : (plus (plus (plus (plus (plus w y0) y1) y2) z2) y3).cell? ⟨g2, k * 9 + 3, none⟩ = some (.int .i64 tnk) := by have q := row_cell HC2.out (i := k) (j := 3) (by omega) (by decide); rw [h2] at q; (first | exact q | (rw [hza]; exact q))
      have p24 : (plus (plus (plus (plus (plus w y0) y1) y2) z2) y3).cell? ⟨g2, k * 9 + 4, none⟩ = some (.int .i64 tn) := by have q := row_cell HC2.out (i := k) (j := 4) (by omega) (by decide); rw [h2] at q; (first | exact q | (rw [hza]; exact q))
      have p25 : (plus (plus (plus (plus (plus w y0) y1) y2) z2) y3).cell? ⟨g2, k * 9 + 5, none⟩ = some (.bool (decide (tb < 0))) := by have q := row_cell HC2.out (i := k) (j := 5) (by omega) (by decide); rw [h2] at q; (first | exact q | (rw [hza]; exact q))
      have p26 : (plus (plus (plus (plus (plus w y0) y1) y2) z2) y3).cell? ⟨g2, k * 9 + 6, none⟩ = some (.slice Am2 (Bg.dig tb.natAbs).length cm2) := by have q := row_cell HC2.out (i := k) (j := 6) (by omega) (by decide); rw [h2] at q; (first | exact q | (rw [hza]; exact q))
      have p27 : (plus (plus (plus (plus (plus w y0) y1) y2) z2) y3).cell? ⟨g2, k * 9 + 7, none⟩ = some (.int .i64 za) := by have q := row_cell HC2.out (i := k) (j := 7) (by omega) (by decide); rw [h2] at q; (first | exact q | (rw [hza]; exact q))
      have p28 : (plus (plus (plus (plus (plus w y0) y1) y2) z2) y3).cell? ⟨g2, k * 9 + 8, none⟩ = some (.bool tnl) := by have q := row_cell HC2.out (i := k) (j := 8) (by omega) (by decide); rw [h2] at q; (first | exact q | (rw [hza]; exact q))
      have p30 : (plus (plus (plus (plus (plus w y0) y1) y2) z2) y3).cell? ⟨g3, (P + k) * 9, none⟩ = some (.int .i64 tk) := by have q := row_cell HC3.out (i := (P + k)) (j := 0) (by omega) (by decide); rw [h3] at q; (first | exact q | (rw [← cz]; exact q))
      have p31 : (plus (plus (plus (plus (plus w y0) y1) y2) z2) y3).cell? ⟨g3, (P + k) * 9 + 1, none⟩ = some (.string tt) := by have q := row_cell HC3.out (i := (P + k)) (j := 1) (by omega) (by decide); rw [h3] at q; (first | exact q | (rw [← cz]; exact q))
      have p32 : (plus (plus (plus (plus (plus w y0) y1) y2) z2) y3).cell? ⟨g3, (P + k) * 9 + 2, none⟩ = some (.slice As3 ts.length cs3) := by have q := row_cell HC3.out (i := (P + k)) (j := 2) (by omega) (by decide); rw [h3] at q; (first | exact q | (rw [← cz]; exact q))
      have p33 : (plus (plus (plus (plus (plus w y0) y1) y2) z2) y3).cell? ⟨g3, (P + k) * 9 + 3, none⟩ = some (.int .i64 tnk) := by have q := row_cell HC3.out (i := (P + k)) (j := 3) (by omega) (by decide); rw [h3] at q; (first | exact q | (rw [← cz]; exact q))
      have p34 : (plus (plus (plus (plus (plus w y0) y1) y2) z2) y3).cell? ⟨g3, (P + k) * 9 + 4, none⟩ = some (.int .i64 tn) := by have q := row_cell HC3.out (i := (P + k)) (j := 4) (by omega) (by decide); rw [h3] at q; (first | exact q | (rw [← cz]; exact q))
      have p35 : (plus (plus (plus (plus (plus w y0) y1) y2) z2) y3).cell? ⟨g3, (P + k) * 9 + 5, none⟩ = some (.bool (decide (tb < 0))) := by have q := row_cell HC3.out (i := (P + k)) (j := 5) (by omega) (by decide); rw [h3] at q; (first | exact q | (rw [← cz]; exact q))
      have p36 : (plus (plus (plus (plus (plus w y0) y1) y2) z2) y3).cell? ⟨g3, (P + k) * 9 + 6, none⟩ = some (.slice Am3 (Bg.dig tb.natAbs).length cm3) := by have q := row_cell HC3.out (i := (P + k)) (j := 6) (by omega) (by decide); rw [h3] at q; (first | exact q | (rw [← cz]; exact q))
      have p37 : (plus (plus (plus (plus (plus w y0) y1) y2) z2) y3).cell? ⟨g3, (P + k) * 9 + 7, none⟩ = some (.int .i64 (za + ((n : Int) + 1))) := by have q := row_cell HC3.out (i := (P + k)) (j := 7) (by omega) (by decide); rw [h3] at q; (first | exact q | (rw [← cz]; exact q))
      have p38 : (plus (plus (plus (plus (plus w y0) y1) y2) z2) y3).cell? ⟨g3, (P + k) * 9 + 8, none⟩ = some (.bool (tnl || decide (k = 0))) := by have q := row_cell HC3.out (i := (P + k)) (j := 8) (by omega) (by decide); rw [h3] at q; (first | exact q | (rw [← cz]; exact q))
      have K2 : Hid (TkM (plus (plus (plus (plus (plus w y0) y1) y2) z2) y3) ts tb As2 cs2 Am2 cm2) := Lib.hid t2'
      have K3 : Hid (TkM (plus (plus (plus (plus (plus w y0) y1) y2) z2) y3) ts tb As3 cs3 Am3 cm3) := Lib.hid t3'
      have hw1 : IntKind.i64.wrap ((P : Int) + 1 - 1) = P := by rw [IntWalk.i64_in _ (by omega)]; omega
      have hw3 : IntKind.i64.wrap ((P : Int) + (k : Int)) = (P : Int) + k := IntWalk.i64_in _ (by omega)
      have c5 : (0 : Int) ≤ (P : Int) + (k : Int) := by omega
      have c6 : ((P : Int) + (k : Int)).toNat = P + k := by omega
      have c7 : (P : Int) + (k : Int) < (P : Int) + (M : Int) := by omega
      clear t2' t3' h2 h3 hT hta hza cz i2 i3 kL
      have hcs : tnl = true ∧ (tnl || decide (k = 0)) = true ∨ tnl = false ∧ ((k : Int) == 0) = true ∧ (tnl || decide (k = 0)) = true ∨ tnl = false ∧ ((k : Int) == 0) = false ∧ (tnl || decide (k = 0)) = false := by
        cases tnl
        · by_cases k0 : k = 0
          · right; left; simp [k0]
          · right; right; simp [k0]
        · left; simp
      rcases hcs with ⟨rfl, b2⟩ | ⟨rfl, b1, b2⟩ | ⟨rfl, b1, b2⟩
      all_goals
        rw [b2] at p38
        clear b2
        go_wp2_with fail
        refine wp_region_plus (by kernel_rfl) (by kernel_rfl) ?_
        repeat (go_big_quiet_step ((first | (go_at_call 21; with_reducible exact calls_plus (rtok_z tk tnk tn tb (za + ((n : Int) + 1)) tt ts (decide (tb < 0)) true As3 As2 cs3 cs2 Am3 Am2 cm3 cm2 _ (K3.out.plus (by repeat' (first | exact Plus.refl _ | refine Plus.alloc ?_ _ | refine Plus.plus ?_ _ | refine Plus.drew ?_ | refine Plus.drewN ?_ _))) (K2.out.plus (by repeat' (first | exact Plus.refl _ | refine Plus.alloc ?_ _ | refine Plus.plus ?_ _ | refine Plus.drew ?_ | refine Plus.drewN ?_ _))))) | (go_at_call 21; with_reducible exact calls_plus (rtok_z tk tnk tn tb (za + ((n : Int) + 1)) tt ts (decide (tb < 0)) false As3 As2 cs3 cs2 Am3 Am2 cm3 cm2 _ (K3.out.plus (by repeat' (first | exact Plus.refl _ | refine Plus.alloc ?_ _ | refine Plus.plus ?_ _ | refine Plus.drew ?_ | refine Plus.drewN ?_ _))) (K2.out.plus (by repeat' (first | exact Plus.refl _ | refine Plus.alloc ?_ _ | refine Plus.plus ?_ _ | refine Plus.drew ?_ | refine Plus.drewN ?_ _))))))))
        refine wpQuiet_nil ?_
        intro _ hw'
        obtain ⟨x9, rfl⟩ := hw'
        clear hw1 hw3 c6
        go_wp2_with fail
        go_roundw
        case rel => exact ⟨⟨k + 1, hlt, by rw [show ((k + 1 : Nat) : Int) = (k : Int) + 1 by omega]⟩, (by repeat' (first | exact Plus.refl _ | refine Plus.alloc ?_ _ | refine Plus.plus ?_ _ | refine Plus.drew ?_ | refine Plus.drewN ?_ _))⟩
        case measure => simp [intOf]; omega
    · obtain rfl : k = M := by omega
      go_wp2_with (first | (go_at_call 11; (with_reducible refine (first_c _ (Lib.hid (HL.out.plus (by repeat' (first | exact Plus.refl _ | refine Plus.alloc ?_ _ | refine Plus.plus ?_ _ | refine Plus.drew ?_ | refine Plus.drewN ?_ _))))).mono ?_); rintro e w1 ⟨rfl, ⟨y5, rfl⟩⟩))
      go_ret
      exact ⟨rfl, (by repeat' (first | exact Plus.refl _ | refine Plus.alloc ?_ _ | refine Plus.plus ?_ _ | refine Plus.drew ?_ | refine Plus.drewN ?_ _))⟩
end Go.Proofs.YtaigkjffglbknaaDoor
