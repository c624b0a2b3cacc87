/- Walk of EventLogs, to the loops. -/
import Derived.WalkKit
import Derived.WalkSpells
import Derived.WalkLawsBesides
import Derived.Handy
import Derived.Deep.RegionHeld3
import Derived.Deep.DeepCutAuto
import Derived.Deep.QuietTactic
import Derived.BigQuiet
import Derived.Lib.Hide
import Derived.KernelRfl
import Derived.WalkMore
import Derived.Deep.LoopGhost
import Derived.IntWalk
import Derived.Test.YtcpmkfoelhopiaaL4u
namespace Go.Proofs.Ytcpmkfoelhopiaa
open Go.RowKit

/-- What the loops keep. -/
structure LpO (W0 : World) (b9 : Nat) (V : Option Addr) (N k1 : Nat) (V2 : Option Addr) (M k2 : Nat) (ys : List ER) (wr : World) : Prop where
  bx : Bt 31 wr b9 (.slice V N k1) (.slice V2 M k2)
  row : wr.ownsRow W0.heap.size 25 10 (.slice V N k1) N (rowE ys)
  fr : ∀ y ∈ ys, OwnF W0.heap.size wr y
  pl : Plus W0 wr
def Lo10 (W0 : World) (b9 : Nat) (V : Option Addr) (N k1 : Nat) (V2 : Option Addr) (M k2 : Nat) (ys : List ER) (s10 : Value) (wr : World) : Prop := ∃ i : Nat, s10 = .int .i64 i ∧ i ≤ N ∧ LpO W0 b9 V N k1 V2 M k2 ys wr
def Lo11 (W0 : World) (b9 : Nat) (V : Option Addr) (N k1 : Nat) (V2 : Option Addr) (M k2 : Nat) (ys : List ER) (f : Nat) (s11 : Value) (wr : World) : Prop := ∃ j : Nat, s11 = .int .i64 j ∧ j ≤ f ∧ LpO W0 b9 V N k1 V2 M k2 ys wr
theorem row_at {w : World} {B N k i : Nat} {V : Option Addr} {ys : List ER} (h : w.ownsRow B 25 10 (.slice V N k) N (rowE ys)) (hn : ys.length = N) (hi : i < N) : ∃ g cur, V = some ⟨g, 0, none⟩ ∧ w.heap[g]? = some (.cells cur 25 (0, 0)) ∧ w.cell? ⟨g, i * 10 + 9, none⟩ = some (.slice (ys.getD i default).F (ys.getD i default).e.f.length (ys.getD i default).cf) ∧ N ≤ k ∧ k ≤ 9223372036854775807 := by
  rcases h.2 with ⟨e, h0⟩ | ⟨g, cap, cur, e, hb, hg, hl, hmx, hs, ht⟩
  · omega
  · injection e with e1 e2 e3
    subst e3
    refine ⟨g, cur, e1, hg, ?_, hl, by unfold maxLen at hmx; exact hmx⟩
    rw [cell_of_row w g (i * 10 + 9) cur 25 (0, 0) hg]
    have q := row_get (ys := ys) (i := i) (j := 9) (by omega) (by omega)
    rw [← ht, List.getElem?_take, if_pos (by omega)] at q
    have e4 : cur[i * 10 + 9]? = cur.toList[i * 10 + 9]? := by simp
    rw [e4, q]
    rfl
theorem OwnF.max {B : Nat} {w : World} {y : ER} (h : OwnF B w y) : y.e.f.length ≤ 9223372036854775807 := by
  obtain ⟨xs, h1, h2⟩ := h
  rcases h2.2 with ⟨e, h0⟩ | ⟨g2, cap, cur2, e, hb, hg2, hl, hmx, hs, ht⟩
  · omega
  · unfold maxLen at hmx
    omega
theorem LpO.store {W0 : World} {b9 N k1 M k2 : Nat} {V V2 : Option Addr} {ys : List ER} {wr : World} (h : LpO W0 b9 V N k1 V2 M k2 ys wr) {g j : Nat} {cur : Array Value} (hg : wr.heap[g]? = some (.cells cur 3 (0, 0))) (hB : W0.heap.size ≤ g) (v : Int) : LpO W0 b9 V N k1 V2 M k2 ys (wr.setCell ⟨g, j, none⟩ (.int .i64 v)) := by
  have hne : g ≠ b9 := fun e => by
    subst e
    have q := h.bx
    unfold Bt at q
    rw [hg] at q
    injection q with q
    injection q with _ q _
    exact absurd q (by decide)
  exact ⟨h.bx.other hne _, own_set h.row hg (by decide), fun y hy => (h.fr y hy).set hg, Plus.of_below (h.pl.below.setCell hB _)⟩
/-- What stands behind the two logs made for the document. -/
structure Lc (w wx : World) (l l' : List Ev) (ps ps' : List Pr) (A : Option Addr) (n c : Nat) (B : Option Addr) (m d : Nat) (A' : Option Addr) (n' c' : Nat) (B' : Option Addr) (m' d' : Nat) (b7 b8 : Nat) (V7 : Option Addr) (k7 : Nat) (V8 : Option Addr) (k8 : Nat) : Prop where
  x7 : Bo wx b7 [.slice V7 n k7, .slice B m d]
  x8 : Bo wx b8 [.slice V8 n' k8, .slice B' m' d']
  xa : Bo wx w.heap.size [.slice A n c, .slice B m d]
  xb : Bo wx (w.heap.size + 1) [.slice A' n' c', .slice B' m' d']
  l7 : Lg wx l ps V7 n k7 B m d
  l8 : Lg wx l' ps' V8 n' k8 B' m' d'
  pl : Plus w wx
set_option maxRecDepth 100000 in
set_option maxHeartbeats 16000000 in
theorem logs_a {l l' l1 : List Ev} {ps ps' q1 : List Pr} {A B A' B' : Option Addr} {n c m d n' c' m' d' N M : Nat} {z : Int} {r0 s0 : Bool} (w : World) (H : Hid (Lg w l ps A n c B m d)) (H' : Hid (Lg w l' ps' A' n' c' B' m' d')) (H1 : Hid (l.take (hdN z l.length) = l1 ∧ ps.filter (amB (hdN z l.length)) = q1 ∧ N = l1.length ∧ M = q1.length)) (hNn : N ≤ n) (HM0 : Hid (MayR l ps r0)) (HSab : Hid (SameR l l' ps ps' s0)) (HSaa : Hid (SameR l l ps ps true)) (HSh : Hid (SameR l1 l1 q1 q1 true)) : Calls Try.prog 4 #[.agg #[.slice A n c, .slice B m d], .agg #[.slice A' n' c', .slice B' m' d'], .int .i64 z] w fun e w' => e = .returned (.bool true) ∧ Plus w w' := by
  go_enter Try.func4, Try.ntmps4
  go_upto_region 5 with (first | (go_at_call 9; (with_reducible refine (first_c _).mono ?_); rintro e w1 ⟨rfl, ⟨y0, rfl⟩⟩) | (go_at_call_of 10 (Value.agg #[.slice A n c, .slice B m d]); (with_reducible refine (few_t _ (H.out.plus (by repeat' (first | exact Plus.refl _ | refine Plus.alloc ?_ _ | refine Plus.plus ?_ _ | refine Plus.drew ?_ | refine Plus.drewN ?_ _)))).mono ?_); rintro e w1 ⟨bf, rfl, hbf, ⟨yf, rfl⟩⟩; have Hbf := Lib.hid hbf; clear hbf) | (go_at_call_of 10 (Value.agg #[.slice A' n' c', .slice B' m' d']); (with_reducible refine (few_t _ (H'.out.plus (by repeat' (first | exact Plus.refl _ | refine Plus.alloc ?_ _ | refine Plus.plus ?_ _ | refine Plus.drew ?_ | refine Plus.drewN ?_ _)))).mono ?_); rintro e w1 ⟨bg, rfl, hbg, ⟨yg, rfl⟩⟩; have Hbg := Lib.hid hbg; clear hbg))
  all_goals (try (go_returns; exact ⟨rfl, (by repeat' (first | exact Plus.refl _ | refine Plus.alloc ?_ _ | refine Plus.plus ?_ _ | refine Plus.drew ?_ | refine Plus.drewN ?_ _))⟩))
  have hbf : bf = true := by cases bf <;> simp_all
  have hbg : bg = true := by cases bg <;> simp_all
  subst hbf hbg
  obtain ⟨f1, f2, f3⟩ := Hbf.out rfl
  obtain ⟨g1, g2, g3⟩ := Hbg.out rfl
  have HSM := Lib.hid f3
  clear Hbf Hbg f3 g3
  go_cut [7, 8] (fun s7 s8 wx => ∃ (b7 b8 : Nat) (V7 : Option Addr) (k7 : Nat) (V8 : Option Addr) (k8 : Nat), s7 = .pointer (some ⟨b7, 0, none⟩) ∧ s8 = .pointer (some ⟨b8, 0, none⟩) ∧ Lc w wx l l' ps ps' A n c B m d A' n' c' B' m' d' b7 b8 V7 k7 V8 k8)
  case first =>
    go_region_held3 (fun w' => w'.cell? ⟨w.heap.size, 0, none⟩ = some (.slice A n c) ∧ w'.cell? ⟨w.heap.size, 1, none⟩ = some (.slice B m d) ∧ w'.cell? ⟨w.heap.size + 1, 0, none⟩ = some (.slice A' n' c') ∧ w'.cell? ⟨w.heap.size + 1, 1, none⟩ = some (.slice B' m' d')) (refine ⟨?_, ?_, ?_, ?_⟩ <;> simp [go_sem]) (first | (go_at_call_of 20 (Value.agg #[.slice A n c, .slice B m d]); (with_reducible refine (log_s _ (H.out.plus (by repeat' (first | exact Plus.refl _ | refine Plus.alloc ?_ _ | refine Plus.plus ?_ _ | refine Plus.drew ?_ | refine Plus.drewN ?_ _))) (by omega)).mono ?_); rintro e w1 ⟨T, Tk, rfl, hT, ⟨x1, rfl⟩⟩; (try simp only [plus_drew] at hT); have HT := Lib.hid hT; clear hT) | (go_at_call_of 20 (Value.agg #[.slice A' n' c', .slice B' m' d']); (with_reducible refine (log_s _ (H'.out.plus (by repeat' (first | exact Plus.refl _ | refine Plus.alloc ?_ _ | refine Plus.plus ?_ _ | refine Plus.drew ?_ | refine Plus.drewN ?_ _))) (by omega)).mono ?_); rintro e w1 ⟨U, Uk, rfl, hU, ⟨x2, rfl⟩⟩; (try simp only [plus_drew] at hU); have HU := Lib.hid hU; clear hU))
    all_goals go_wp2_with fail
    all_goals go_meet
    all_goals exact ⟨_, _, _, _, _, _, rfl, rfl, (by repeat' (first | exact bo_new _ _ _ (by simp [go_sem]) | refine Bo.plus ?_ (Plus.alloc (Plus.refl _) _) | refine Bo.plus ?_ (Plus.is _))), (by repeat' (first | exact bo_new _ _ _ (by simp [go_sem]) | refine Bo.plus ?_ (Plus.alloc (Plus.refl _) _) | refine Bo.plus ?_ (Plus.is _))), (by repeat' (first | exact bo_new w _ _ rfl | refine Bo.plus ?_ (Plus.alloc (Plus.refl _) _) | refine Bo.plus ?_ (Plus.is _))), (by repeat' (first | exact bo_new (w.alloc _) _ _ (by simp) | refine Bo.plus ?_ (Plus.alloc (Plus.refl _) _) | refine Bo.plus ?_ (Plus.is _))), (by first | (refine Lg.plus HT.out ?_; (repeat' (first | exact Plus.refl _ | refine Plus.alloc ?_ _ | refine Plus.plus ?_ _)); done) | (refine Lg.off HT.out ?_; (repeat' (first | exact OffS.refl _ | refine OffS.plus ?_ _ | refine OffS.alloc ?_ _ | refine OffS.allocZ ?_)); done) | (refine Lg.plus (Lg.off HT.out ?_) (Plus.alloc (Plus.refl _) _); (repeat' (first | exact OffS.refl _ | refine OffS.plus ?_ _ | refine OffS.alloc ?_ _ | refine OffS.allocZ ?_)); done) | (refine Lg.plus (Lg.plus (Lg.off HT.out ?_) (Plus.alloc (Plus.refl _) _)) (Plus.alloc (Plus.refl _) _); (repeat' (first | exact OffS.refl _ | refine OffS.plus ?_ _ | refine OffS.alloc ?_ _ | refine OffS.allocZ ?_)); done) | (refine Lg.plus (Lg.plus (Lg.off HT.out ?_) (Plus.alloc (Plus.refl _) _)) (Plus.is _); (repeat' (first | exact OffS.refl _ | refine OffS.plus ?_ _ | refine OffS.alloc ?_ _ | refine OffS.allocZ ?_)); done) | (refine Lg.plus (Lg.off HT.out ?_) (Plus.is _); (repeat' (first | exact OffS.refl _ | refine OffS.plus ?_ _ | refine OffS.alloc ?_ _ | refine OffS.allocZ ?_)); done) | (refine Lg.plus (Lg.plus (Lg.off HT.out ?_) (Plus.is _)) (Plus.alloc (Plus.refl _) _); (repeat' (first | exact OffS.refl _ | refine OffS.plus ?_ _ | refine OffS.alloc ?_ _ | refine OffS.allocZ ?_)); done) | (refine Lg.plus (Lg.plus (Lg.plus (Lg.off HT.out ?_) (Plus.alloc (Plus.refl _) _)) (Plus.is _)) (Plus.alloc (Plus.refl _) _); (repeat' (first | exact OffS.refl _ | refine OffS.plus ?_ _ | refine OffS.alloc ?_ _ | refine OffS.allocZ ?_)); done)), (by first | (refine Lg.plus HU.out ?_; (repeat' (first | exact Plus.refl _ | refine Plus.alloc ?_ _ | refine Plus.plus ?_ _)); done) | (refine Lg.off HU.out ?_; (repeat' (first | exact OffS.refl _ | refine OffS.plus ?_ _ | refine OffS.alloc ?_ _ | refine OffS.allocZ ?_)); done) | (refine Lg.plus (Lg.off HU.out ?_) (Plus.alloc (Plus.refl _) _); (repeat' (first | exact OffS.refl _ | refine OffS.plus ?_ _ | refine OffS.alloc ?_ _ | refine OffS.allocZ ?_)); done) | (refine Lg.plus (Lg.plus (Lg.off HU.out ?_) (Plus.alloc (Plus.refl _) _)) (Plus.alloc (Plus.refl _) _); (repeat' (first | exact OffS.refl _ | refine OffS.plus ?_ _ | refine OffS.alloc ?_ _ | refine OffS.allocZ ?_)); done) | (refine Lg.plus (Lg.plus (Lg.off HU.out ?_) (Plus.alloc (Plus.refl _) _)) (Plus.is _); (repeat' (first | exact OffS.refl _ | refine OffS.plus ?_ _ | refine OffS.alloc ?_ _ | refine OffS.allocZ ?_)); done) | (refine Lg.plus (Lg.off HU.out ?_) (Plus.is _); (repeat' (first | exact OffS.refl _ | refine OffS.plus ?_ _ | refine OffS.alloc ?_ _ | refine OffS.allocZ ?_)); done) | (refine Lg.plus (Lg.plus (Lg.off HU.out ?_) (Plus.is _)) (Plus.alloc (Plus.refl _) _); (repeat' (first | exact OffS.refl _ | refine OffS.plus ?_ _ | refine OffS.alloc ?_ _ | refine OffS.allocZ ?_)); done) | (refine Lg.plus (Lg.plus (Lg.plus (Lg.off HU.out ?_) (Plus.alloc (Plus.refl _) _)) (Plus.is _)) (Plus.alloc (Plus.refl _) _); (repeat' (first | exact OffS.refl _ | refine OffS.plus ?_ _ | refine OffS.alloc ?_ _ | refine OffS.allocZ ?_)); done)), (by repeat' (first | exact Plus.refl _ | refine Plus.alloc ?_ _ | refine Plus.plus ?_ _ | refine Plus.drew ?_ | refine Plus.drewN ?_ _))⟩
  case rest =>
    obtain ⟨b7, b8, V7, k7, V8, k8, rfl, rfl, hLc⟩ := hcut
    obtain ⟨wo, hwo⟩ : ∃ x : World, x = wc := ⟨_, rfl⟩
    subst hwo
    have HLC := Lib.hid hLc
    clear hLc
    have ga0 : wo.cell? ⟨w.heap.size, 0, none⟩ = some (.slice A n c) := HLC.out.xa.cell 0
    have ga1 : wo.cell? ⟨w.heap.size, 1, none⟩ = some (.slice B m d) := HLC.out.xa.cell 1
    have gb0 : wo.cell? ⟨w.heap.size + 1, 0, none⟩ = some (.slice A' n' c') := HLC.out.xb.cell 0
    have gb1 : wo.cell? ⟨w.heap.size + 1, 1, none⟩ = some (.slice B' m' d') := HLC.out.xb.cell 1
    have gc0 : wo.cell? ⟨b7, 0, none⟩ = some (.slice V7 n k7) := HLC.out.x7.cell 0
    have gc1 : wo.cell? ⟨b7, 1, none⟩ = some (.slice B m d) := HLC.out.x7.cell 1
    have gd0 : wo.cell? ⟨b8, 0, none⟩ = some (.slice V8 n' k8) := HLC.out.x8.cell 0
    have gd1 : wo.cell? ⟨b8, 1, none⟩ = some (.slice B' m' d') := HLC.out.x8.cell 1
    haveI : Old w.heap.size wo := ⟨World.block_lt_of_cell? _ _ ga0⟩
    haveI : Old (w.heap.size + 1) wo := ⟨World.block_lt_of_cell? _ _ gb0⟩
    haveI : Old b7 wo := ⟨World.block_lt_of_cell? _ _ gc0⟩
    haveI : Old b8 wo := ⟨World.block_lt_of_cell? _ _ gd0⟩
    have HA := Lib.hid (H.out.plus HLC.out.pl)
    have HB := Lib.hid (H'.out.plus HLC.out.pl)
    have H7 := Lib.hid HLC.out.l7
    have H8 := Lib.hid HLC.out.l8
    go_wp2_with fail
    refine (head_w _ HA.out HSM H1 (by omega) (by omega)).mono ?_
    rintro e w1 ⟨V, k1, V2, k2, ys, rfl, hL, ho, hy, hyn, ⟨xh, rfl⟩⟩
    have HL := Lib.hid hL
    have HO := Lib.hid ho
    have HY := Lib.hid hy
    have HYN := Lib.hid hyn
    clear hL ho hy hyn
    go_upto_region 7 with fail
    go_cut [58] (fun s58 wx => s58 = .bool false ∧ Plus ((_root_.Go.Proofs.Ytcpmkfoelhopiaa.plus wo xh).alloc (.cells #[.slice V N k1, .slice V2 M k2] 31)) wx)
    case first =>
      go_region_held3 (fun w' => w'.cell? ⟨w.heap.size, 0, none⟩ = some (.slice A n c) ∧ w'.cell? ⟨w.heap.size, 1, none⟩ = some (.slice B m d) ∧ w'.cell? ⟨w.heap.size + 1, 0, none⟩ = some (.slice A' n' c') ∧ w'.cell? ⟨w.heap.size + 1, 1, none⟩ = some (.slice B' m' d') ∧ w'.cell? ⟨b7, 0, none⟩ = some (.slice V7 n k7) ∧ w'.cell? ⟨b7, 1, none⟩ = some (.slice B m d) ∧ w'.cell? ⟨b8, 0, none⟩ = some (.slice V8 n' k8) ∧ w'.cell? ⟨b8, 1, none⟩ = some (.slice B' m' d') ∧ w'.cell? ⟨wo.heap.size + xh.blocks.length, 0, none⟩ = some (.slice V N k1) ∧ w'.cell? ⟨wo.heap.size + xh.blocks.length, 1, none⟩ = some (.slice V2 M k2)) (refine ⟨?_, ?_, ?_, ?_, ?_, ?_, ?_, ?_, ?_, ?_⟩ <;> simp [go_sem, ga0, ga1, gb0, gb1, gc0, gc1, gd0, gd1]) (first | (go_at_call_of 20 (Value.agg #[.slice V N k1, .slice V2 M k2]); (with_reducible refine (log_s _ (HL.out.plus (by repeat' (first | exact Plus.refl _ | refine Plus.alloc ?_ _ | refine Plus.plus ?_ _ | refine Plus.drew ?_ | refine Plus.drewN ?_ _))) (by omega)).mono ?_); rintro e xw ⟨P, Pk, rfl, hP, ⟨z1, rfl⟩⟩; (try simp only [plus_drew] at hP); have HP := Lib.hid hP; clear hP) | (go_at_call 23; (with_reducible refine (rhead_s _ (H7.out.plus (by repeat' (first | exact Plus.refl _ | refine Plus.alloc ?_ _ | refine Plus.plus ?_ _ | refine Plus.drew ?_ | refine Plus.drewN ?_ _))) HSM H1 (by omega) (by omega)).mono ?_); rintro e xw ⟨Q, Qk, Q2, Qk2, rfl, hQ, ⟨z2, rfl⟩⟩; (try simp only [plus_drew] at hQ); have HQ := Lib.hid hQ; clear hQ) | (go_at_call_of 22 (Value.agg #[.slice P N Pk, .slice V2 M k2]); (with_reducible refine (rsame_s _ HSh (HP.out.plus (by repeat' (first | exact Plus.refl _ | refine Plus.alloc ?_ _ | refine Plus.plus ?_ _ | refine Plus.drew ?_ | refine Plus.drewN ?_ _))) (HQ.out.plus (by repeat' (first | exact Plus.refl _ | refine Plus.alloc ?_ _ | refine Plus.plus ?_ _ | refine Plus.drew ?_ | refine Plus.drewN ?_ _)))).mono ?_); rintro e xw ⟨rfl, ⟨z3, rfl⟩⟩) | (go_at_call_of 22 (Value.agg #[.slice V7 n k7, .slice B m d]); (with_reducible refine (rsame_s _ HSab (H7.out.plus (by repeat' (first | exact Plus.refl _ | refine Plus.alloc ?_ _ | refine Plus.plus ?_ _ | refine Plus.drew ?_ | refine Plus.drewN ?_ _))) (H8.out.plus (by repeat' (first | exact Plus.refl _ | refine Plus.alloc ?_ _ | refine Plus.plus ?_ _ | refine Plus.drew ?_ | refine Plus.drewN ?_ _)))).mono ?_); rintro e xw ⟨rfl, ⟨z4, rfl⟩⟩) | (go_at_call 24; (with_reducible refine (may_s _ HM0 (HA.out.plus (by repeat' (first | exact Plus.refl _ | refine Plus.alloc ?_ _ | refine Plus.plus ?_ _ | refine Plus.drew ?_ | refine Plus.drewN ?_ _)))).mono ?_); rintro e xw ⟨rfl, ⟨z5, rfl⟩⟩) | (go_at_call 25; (with_reducible refine (rmay_s _ HM0 HSM (H7.out.plus (by repeat' (first | exact Plus.refl _ | refine Plus.alloc ?_ _ | refine Plus.plus ?_ _ | refine Plus.drew ?_ | refine Plus.drewN ?_ _)))).mono ?_); rintro e xw ⟨rfl, ⟨z6, rfl⟩⟩) | (go_at_call 26; (with_reducible refine (same_s _ HSab (HA.out.plus (by repeat' (first | exact Plus.refl _ | refine Plus.alloc ?_ _ | refine Plus.plus ?_ _ | refine Plus.drew ?_ | refine Plus.drewN ?_ _))) (HB.out.plus (by repeat' (first | exact Plus.refl _ | refine Plus.alloc ?_ _ | refine Plus.plus ?_ _ | refine Plus.drew ?_ | refine Plus.drewN ?_ _)))).mono ?_); rintro e xw ⟨rfl, ⟨z7, rfl⟩⟩) | (go_at_call 26; (with_reducible refine (same_s _ HSaa (HA.out.plus (by repeat' (first | exact Plus.refl _ | refine Plus.alloc ?_ _ | refine Plus.plus ?_ _ | refine Plus.drew ?_ | refine Plus.drewN ?_ _))) (HA.out.plus (by repeat' (first | exact Plus.refl _ | refine Plus.alloc ?_ _ | refine Plus.plus ?_ _ | refine Plus.drew ?_ | refine Plus.drewN ?_ _)))).mono ?_); rintro e xw ⟨rfl, ⟨z8, rfl⟩⟩))
      all_goals go_wp2_with fail
      all_goals go_meet
      all_goals exact ⟨rfl, (by repeat' (first | exact Plus.refl _ | refine Plus.alloc ?_ _ | refine Plus.plus ?_ _ | refine Plus.drew ?_ | refine Plus.drewN ?_ _))⟩
    case rest =>
      obtain ⟨rfl, hpx⟩ := hcut
      have HLP : Hid (LpO wo (wo.heap.size + xh.blocks.length) V N k1 V2 M k2 ys wc) := Lib.hid ⟨(bt_new _ _ _ _ (by simp [go_sem])).plus hpx, own_plus (own_plus HO.out (Plus.alloc (Plus.refl _) _)) hpx, fun y hy => ((HY.out y hy).plus (Plus.alloc (Plus.refl _) _)).plus hpx, ((Plus.is xh).trans (Plus.alloc (Plus.refl _) _)).trans hpx⟩
      clear hpx HL HO HY ga0 ga1 gb0 gb1 gc0 gc1 gd0 gd1
      go_wp2_with fail
      go_loopw [10] (fun s10 wr => Lo10 wo (wo.heap.size + xh.blocks.length) V N k1 V2 M k2 ys s10 wr) (fun s10 _ => ((N : Int) - intOf s10).toNat)
      case atStart => exact ⟨0, rfl, Nat.zero_le _, HLP.out⟩
      case round =>
        obtain ⟨i, rfl, hi, hLq⟩ := hrel
        have h9 := hLq.bx.c0
        have HLQ := Lib.hid hLq
        clear hLq
        by_cases hil : i < N
        · obtain ⟨y, hyd⟩ : ∃ y, ys.getD i default = y := ⟨_, rfl⟩
          have hym : Hid (y ∈ ys) := Lib.hid (by
            have hl : i < ys.length := by rw [HYN.out]; exact hil
            rw [← hyd, List.getD_eq_getElem?_getD, List.getElem?_eq_getElem hl]
            exact List.getElem_mem hl)
          have HYD := Lib.hid hyd
          have hi300 : i ≤ 300 := by omega
          clear hyd
          go_wp2_with fail
          go_loopw [11] (fun s11 wr => Lo11 wo (wo.heap.size + xh.blocks.length) V N k1 V2 M k2 ys y.e.f.length s11 wr) (fun s11 _ => ((y.e.f.length : Int) - intOf s11).toNat)
          case atStart => exact ⟨0, rfl, Nat.zero_le _, HLQ.out⟩
          case round =>
            obtain ⟨j, rfl, hj, hLr⟩ := hrel
            clear h9
            have h9 := hLr.bx.c0
            obtain ⟨g, cur, hV, hgc, hcell, hNk, hkm⟩ := row_at hLr.row HYN.out hil
            rw [HYD.out] at hcell
            have HLR := Lib.hid hLr
            subst hV
            have hadd := zero_add_addr g (i * 10)
            have hfm := (hLr.fr y hym.out).max
            by_cases hjl : j < y.e.f.length
            · obtain ⟨gF, curF, vF, hF, hBF, hgF, hcF, hcf⟩ := (hLr.fr y hym.out).at_ hjl
              have hfz : wr.frozen? ⟨gF, j, none⟩ = false := by simp [World.frozen?, hgF]
              rw [hF] at hcell
              have hadd2 := zero_add_addr gF j
              have HST := Lib.hid (hLr.store (j := j) hgF hBF (-9))
              clear hLr hgc hgF hF
              go_wp2_with fail
              go_roundw
              case rel => exact ⟨j + 1, int_eq (by omega), hjl, HST.out⟩
              case measure => simp [intOf]; omega
            · obtain rfl : j = y.e.f.length := by omega
              clear hLr hgc
              go_wp2_with fail
              go_roundw
              case rel => exact ⟨i + 1, int_eq (by omega), hil, HLR.out⟩
              case measure => simp [intOf]; omega
        · obtain rfl : i = N := by omega
          have hq := HLQ.out.pl
          have ha0 : ∀ x, (_root_.Go.Proofs.Ytcpmkfoelhopiaa.plus wr x).cell? ⟨w.heap.size, 0, none⟩ = some (.slice A n c) := fun x => (HLC.out.xa.plus (hq.trans (Plus.is x))).cell 0
          have ha1 : ∀ x, (_root_.Go.Proofs.Ytcpmkfoelhopiaa.plus wr x).cell? ⟨w.heap.size, 1, none⟩ = some (.slice B m d) := fun x => (HLC.out.xa.plus (hq.trans (Plus.is x))).cell 1
          have hc0 : ∀ x, (_root_.Go.Proofs.Ytcpmkfoelhopiaa.plus wr x).cell? ⟨b7, 0, none⟩ = some (.slice V7 n k7) := fun x => (HLC.out.x7.plus (hq.trans (Plus.is x))).cell 0
          have hc1 : ∀ x, (_root_.Go.Proofs.Ytcpmkfoelhopiaa.plus wr x).cell? ⟨b7, 1, none⟩ = some (.slice B m d) := fun x => (HLC.out.x7.plus (hq.trans (Plus.is x))).cell 1
          have HA2 := Lib.hid (HA.out.plus hq)
          have H72 := Lib.hid (H7.out.plus hq)
          have HPW := Lib.hid (HLC.out.pl.trans hq)
          clear hq
          go_wp2_with fail
          refine wp_region_plus (by kernel_rfl) (by kernel_rfl) ?_
          repeat (go_big_quiet_step ((first | (go_at_call 9; exact calls_plus (first_c _)) | (go_at_call 24; exact calls_plus (may_s _ HM0 (HA2.out.plus (by repeat' (first | exact Plus.refl _ | refine Plus.alloc ?_ _ | refine Plus.plus ?_ _ | refine Plus.drew ?_ | refine Plus.drewN ?_ _))))) | (go_at_call 25; exact calls_plus (rmay_s _ HM0 HSM (H72.out.plus (by repeat' (first | exact Plus.refl _ | refine Plus.alloc ?_ _ | refine Plus.plus ?_ _ | refine Plus.drew ?_ | refine Plus.drewN ?_ _))))))))
          refine wpQuiet_nil ?_
          intro _ hw'
          obtain ⟨ye, rfl⟩ := hw'
          go_wp2_with fail
          go_returns
          exact ⟨ret_bool (by simp), HPW.out.trans (Plus.is _)⟩
end Go.Proofs.Ytcpmkfoelhopiaa
