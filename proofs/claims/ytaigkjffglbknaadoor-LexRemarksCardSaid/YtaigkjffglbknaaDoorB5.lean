/- A copy of units, as a row of the call's own; rows of tokens that are the same. -/
import Derived.Deep.QuietTactic
import Derived.BigQuiet
import Derived.Test.YtaigkjffglbknaaDoorL9w
import Derived.Test.YtaigkjffglbknaaDoorB4
namespace Go.Proofs.YtaigkjffglbknaaDoor
open Go.RowKit


set_option maxRecDepth 100000 in
set_option maxHeartbeats 4000000 in
theorem copy_c (A : Option Addr) (xs : List Nat) (n c : Nat) (w : World) (ha : Ar .u16 65536 w A xs n c) (hn : n ≤ 1000000) :
    Calls Tryd.prog 22 #[.slice A n c] w fun e w' => ∃ v, e = .returned v ∧ w'.ownsRow w.heap.size 40 1 v xs.length (vals .u16 xs) ∧ Plus w w' := by
  obtain ⟨i0, hi, hz0, hz1, hz2⟩ := info_parts infoU16
  have hlen := Lib.hid ha.len
  have hxl : xs.length ≤ 1000000 := by have := ha.len; omega
  have HA := Lib.hid ha
  have st : (w.alloc (.cells #[] 40)).ownsRow w.heap.size 40 1 (.slice (some ⟨w.heap.size, 0, none⟩) 0 0) ([] : List Nat).length (vals .u16 []) := World.ownsRow_made w #[] 0 (Nat.le_refl _) (by decide) rfl
  have ST := Lib.hid st
  clear ha st
  go_enter Tryd.func22, Tryd.ntmps22
  go_wp2_with (at_builtin; refine wpList_append_rd (by rfl) _ _ 25 rfl w.heap.size 40 i0 (.int .u16 0) 2 .u16 Tryd.underlying25 hi hz0 hz1 hz2 (by decide) _ [] xs rfl ST.out _ _ _ rfl hlen.out (HA.out.rd.plus (by repeat' (first | exact Plus.refl _ | refine Plus.alloc ?_ _ | refine Plus.plus ?_ _ | refine Plus.drew ?_ | refine Plus.drewN ?_ _))) (by simp; unfold maxLen; omega) (by simp; omega) (by simp [go_sem]) ?_; intro vv w1 hown1 hgr1; have HP := Lib.hid (below_rd ST.out ((Plus.refl _).alloc _) hgr1); have HO := Lib.hid hown1; clear hown1 hgr1)
  go_ret
  refine ⟨vv, rfl, ?_, HP.out⟩
  have q := HO.out
  rw [List.length_nil, Nat.zero_add] at q
  exact q

def RtRel (N : Nat) (s5 : Value) : Prop := ∃ k : Nat, k ≤ N ∧ s5 = .int .i64 k
set_option maxRecDepth 100000 in
set_option maxHeartbeats 16000000 in
theorem rtoks_c (g1 g2 N c1 c2 : Nat) (rs1 rs2 : List TR) (w : World) (hg1 : g1 < w.heap.size) (hg2 : g2 < w.heap.size) (HC1 : Hid (∀ k, k < rs1.length * 9 → w.cell? ⟨g1, k, none⟩ = (rowC rs1)[k]?)) (HC2 : Hid (∀ k, k < rs2.length * 9 → w.cell? ⟨g2, k, none⟩ = (rowC rs2)[k]?))
    (HT1 : Hid (∀ r ∈ rs1, TRM w r)) (HT2 : Hid (∀ r ∈ rs2, TRM w r)) (n1 : N ≤ rs1.length) (n2 : N ≤ rs2.length) (hN : N ≤ 5000) (HE : Hid (∀ k (q1 : k < rs1.length) (q2 : k < rs2.length), k < N → rs1[k].t = rs2[k].t)) :
    Calls Tryd.prog 23 #[.slice (some ⟨g1, 0, none⟩) N c1, .slice (some ⟨g2, 0, none⟩) N c2] w fun e w' => e = .returned (.bool true) ∧ Plus w w' := by
  have I1 : Old g1 w := ⟨hg1⟩
  have I2 : Old g2 w := ⟨hg2⟩
  go_enter Tryd.func23, Tryd.ntmps23
  go_wp2_with fail
  go_loopw [5] (fun s5 wr => RtRel N s5 ∧ Plus w wr) (fun s5 _ => ((N : Int) - intOf s5).toNat)
  case atStart => exact ⟨⟨0, by omega, rfl⟩, Plus.refl _⟩
  case round =>
    obtain ⟨⟨k, hk, rfl⟩, hp⟩ := hrel
    obtain ⟨x0, rfl⟩ := hp
    by_cases hlt : k < N
    · have i1 : k < rs1.length := by omega
      have i2 : k < rs2.length := by omega
      have f1 := HE.out k i1 i2 hlt
      have t1' := HT1.out _ (List.getElem_mem i1)
      have t2' := HT2.out _ (List.getElem_mem i2)
      obtain ⟨⟨tk, tt, ts, tnk, tn, tb, ta, tnl⟩, hT⟩ : ∃ T, rs2[k].t = T := ⟨_, rfl⟩
      rw [hT] at f1
      obtain ⟨r1, h1⟩ : ∃ r, rs1[k] = r := ⟨_, rfl⟩
      obtain ⟨r2, h2⟩ : ∃ r, rs2[k] = r := ⟨_, rfl⟩
      rw [h1] at f1 t1'
      rw [h2] at hT t2'
      obtain ⟨u1, As1, cs1, Am1, cm1⟩ := r1
      obtain ⟨u2, As2, cs2, Am2, cm2⟩ := r2
      dsimp only at f1 hT
      subst f1 hT
      obtain ⟨za, hza⟩ : ∃ z : Int, z = (ta : Int) := ⟨_, rfl⟩
      have p10 : w.cell? ⟨g1, k * 9, none⟩ = some (.int .i64 tk) := by have q := row_cell HC1.out (i := k) (j := 0) (by omega) (by decide); rw [h1] at q; (first | exact q | (rw [hza]; exact q))
      have p11 : w.cell? ⟨g1, k * 9 + 1, none⟩ = some (.string tt) := by have q := row_cell HC1.out (i := k) (j := 1) (by omega) (by decide); rw [h1] at q; (first | exact q | (rw [hza]; exact q))
      have p12 : w.cell? ⟨g1, k * 9 + 2, none⟩ = some (.slice As1 ts.length cs1) := by have q := row_cell HC1.out (i := k) (j := 2) (by omega) (by decide); rw [h1] at q; (first | exact q | (rw [hza]; exact q))
      have p13 : w.cell? ⟨g1, k * 9 + 3, none⟩ = some (.int .i64 tnk) := by have q := row_cell HC1.out (i := k) (j := 3) (by omega) (by decide); rw [h1] at q; (first | exact q | (rw [hza]; exact q))
      have p14 : w.cell? ⟨g1, k * 9 + 4, none⟩ = some (.int .i64 tn) := by have q := row_cell HC1.out (i := k) (j := 4) (by omega) (by decide); rw [h1] at q; (first | exact q | (rw [hza]; exact q))
      have p15 : w.cell? ⟨g1, k * 9 + 5, none⟩ = some (.bool (decide (tb < 0))) := by have q := row_cell HC1.out (i := k) (j := 5) (by omega) (by decide); rw [h1] at q; (first | exact q | (rw [hza]; exact q))
      have p16 : w.cell? ⟨g1, k * 9 + 6, none⟩ = some (.slice Am1 (Bg.dig tb.natAbs).length cm1) := by have q := row_cell HC1.out (i := k) (j := 6) (by omega) (by decide); rw [h1] at q; (first | exact q | (rw [hza]; exact q))
      have p17 : w.cell? ⟨g1, k * 9 + 7, none⟩ = some (.int .i64 za) := by have q := row_cell HC1.out (i := k) (j := 7) (by omega) (by decide); rw [h1] at q; (first | exact q | (rw [hza]; exact q))
      have p18 : w.cell? ⟨g1, k * 9 + 8, none⟩ = some (.bool tnl) := by have q := row_cell HC1.out (i := k) (j := 8) (by omega) (by decide); rw [h1] at q; (first | exact q | (rw [hza]; exact q))
      have p20 : w.cell? ⟨g2, k * 9, none⟩ = some (.int .i64 tk) := by have q := row_cell HC2.out (i := k) (j := 0) (by omega) (by decide); rw [h2] at q; (first | exact q | (rw [hza]; exact q))
      have p21 : w.cell? ⟨g2, k * 9 + 1, none⟩ = some (.string tt) := by have q := row_cell HC2.out (i := k) (j := 1) (by omega) (by decide); rw [h2] at q; (first | exact q | (rw [hza]; exact q))
      have p22 : w.cell? ⟨g2, k * 9 + 2, none⟩ = some (.slice As2 ts.length cs2) := by have q := row_cell HC2.out (i := k) (j := 2) (by omega) (by decide); rw [h2] at q; (first | exact q | (rw [hza]; exact q))
      have p23 : w.cell? ⟨g2, k * 9 + 3, none⟩ = some (.int .i64 tnk) := by have q := row_cell HC2.out (i := k) (j := 3) (by omega) (by decide); rw [h2] at q; (first | exact q | (rw [hza]; exact q))
      have p24 : w.cell? ⟨g2, k * 9 + 4, none⟩ = some (.int .i64 tn) := by have q := row_cell HC2.out (i := k) (j := 4) (by omega) (by decide); rw [h2] at q; (first | exact q | (rw [hza]; exact q))
      have p25 : w.cell? ⟨g2, k * 9 + 5, none⟩ = some (.bool (decide (tb < 0))) := by have q := row_cell HC2.out (i := k) (j := 5) (by omega) (by decide); rw [h2] at q; (first | exact q | (rw [hza]; exact q))
      have p26 : w.cell? ⟨g2, k * 9 + 6, none⟩ = some (.slice Am2 (Bg.dig tb.natAbs).length cm2) := by have q := row_cell HC2.out (i := k) (j := 6) (by omega) (by decide); rw [h2] at q; (first | exact q | (rw [hza]; exact q))
      have p27 : w.cell? ⟨g2, k * 9 + 7, none⟩ = some (.int .i64 za) := by have q := row_cell HC2.out (i := k) (j := 7) (by omega) (by decide); rw [h2] at q; (first | exact q | (rw [hza]; exact q))
      have p28 : w.cell? ⟨g2, k * 9 + 8, none⟩ = some (.bool tnl) := by have q := row_cell HC2.out (i := k) (j := 8) (by omega) (by decide); rw [h2] at q; (first | exact q | (rw [hza]; exact q))
      have K1 : Hid (TkM w ts tb As1 cs1 Am1 cm1) := Lib.hid t1'
      have K2 : Hid (TkM w ts tb As2 cs2 Am2 cm2) := Lib.hid t2'
      clear t1' t2' h1 h2 hza i1 i2
      cases tnl
      all_goals
        go_wp2_with fail
        refine wp_region_plus (by kernel_rfl) (by kernel_rfl) ?_
        repeat (go_big_quiet_step ((first | (go_at_call 21; with_reducible exact calls_plus (rtok_z tk tnk tn tb za tt ts (decide (tb < 0)) true As1 As2 cs1 cs2 Am1 Am2 cm1 cm2 _ (K1.out.plus (by repeat' (first | exact Plus.refl _ | refine Plus.alloc ?_ _ | refine Plus.plus ?_ _ | refine Plus.drew ?_ | refine Plus.drewN ?_ _))) (K2.out.plus (by repeat' (first | exact Plus.refl _ | refine Plus.alloc ?_ _ | refine Plus.plus ?_ _ | refine Plus.drew ?_ | refine Plus.drewN ?_ _))))) | (go_at_call 21; with_reducible exact calls_plus (rtok_z tk tnk tn tb za tt ts (decide (tb < 0)) false As1 As2 cs1 cs2 Am1 Am2 cm1 cm2 _ (K1.out.plus (by repeat' (first | exact Plus.refl _ | refine Plus.alloc ?_ _ | refine Plus.plus ?_ _ | refine Plus.drew ?_ | refine Plus.drewN ?_ _))) (K2.out.plus (by repeat' (first | exact Plus.refl _ | refine Plus.alloc ?_ _ | refine Plus.plus ?_ _ | refine Plus.drew ?_ | refine Plus.drewN ?_ _))))))))
        refine wpQuiet_nil ?_
        intro _ hw'
        obtain ⟨x9, rfl⟩ := hw'
        go_wp2_with fail
        go_roundw
        case rel => exact ⟨⟨k + 1, hlt, by rw [show ((k + 1 : Nat) : Int) = (k : Int) + 1 by omega]⟩, (by repeat' (first | exact Plus.refl _ | refine Plus.alloc ?_ _ | refine Plus.plus ?_ _ | refine Plus.drew ?_ | refine Plus.drewN ?_ _))⟩
        case measure => simp [intOf]; omega
    · obtain rfl : k = N := by omega
      go_wp2_with fail
      go_ret
      exact ⟨rfl, (by repeat' (first | exact Plus.refl _ | refine Plus.alloc ?_ _ | refine Plus.plus ?_ _ | refine Plus.drew ?_ | refine Plus.drewN ?_ _))⟩
end Go.Proofs.YtaigkjffglbknaaDoor
