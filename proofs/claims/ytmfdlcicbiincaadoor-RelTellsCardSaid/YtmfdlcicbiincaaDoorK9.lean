/- addPairs. -/
import Derived.WalkKit
import Derived.WalkSpells
import Derived.WalkLawsBesides
import Derived.Handy
import Derived.Deep.RegionHeld3
import Derived.Deep.DeepCutAuto
import Derived.Deep.QuietTactic
import Derived.BigQuiet
import Derived.Lib.Hide
import Derived.KernelRfl
import Derived.WalkMore
import Derived.Deep.LoopGhost
import Derived.IntWalk
import Derived.Deep.RegionLaw
import Derived.RangeFuncBox
import Derived.Test.YtmfdlcicbiincaaDoorK8
namespace Go.Proofs.YtmfdlcicbiincaaDoor
open Go.RowKit


def prB (ps : List Pr) (x y : Nat) : Bool := decide (((x : Int), (y : Int)) ∈ ps)
def Ap (w0 wb : World) (ps : List Pr) (n K B p : Nat) (R : Nat → Nat → Bool) (hs : List Nat) (s8 : Value) (wr : World) : Prop := ∃ j : Nat, s8 = .int .i64 j ∧ j ≤ ps.length ∧ Rl wr B p n K (fun x y => R x y || prB (ps.take j) x y) hs ∧ Below w0.heap.size w0 wr ∧ Kept 0 wb wr
theorem take_pr {xs : List Pr} {i : Nat} (hi : i < xs.length) : xs.take (i + 1) = xs.take i ++ [xs.getD i (0, 0)] := by
  rw [List.take_succ_eq_append_getElem hi, List.getD_eq_getElem?_getD, List.getElem?_eq_getElem hi]
  rfl
theorem prB_snoc {ps : List Pr} {a b x y : Nat} : prB (ps ++ [((a : Int), (b : Int))]) x y = (prB ps x y || (x == a && y == b)) := by
  unfold prB
  by_cases h : x = a ∧ y = b
  · obtain ⟨rfl, rfl⟩ := h
    simp
  · have h2 : ¬ (((x : Int), (y : Int)) = ((a : Int), (b : Int))) := by
      intro e
      injection e with e1 e2
      omega
    have h3 : (x == a && y == b) = false := by
      cases q : (x == a && y == b)
      · rfl
      · simp at q
        exact absurd q h
    rw [h3]
    simp only [List.mem_append, List.mem_singleton, h2, or_false, Bool.or_false]
theorem Rw.kept {w : World} {h K B i : Nat} {s : Nat → Bool} {v : Value} (H : Rw w h K s) : Kept B w (w.setCell ⟨h, i, none⟩ v) := .of_grown (grown_set _ _ _ _) fun r o e _ ho => by
  injection e with e
  subst e
  obtain ⟨cur, hh, _⟩ := H
  rw [hh] at ho
  injection ho with ho
  subst ho
  rfl
set_option maxRecDepth 100000 in
set_option maxHeartbeats 4000000 in
theorem addPairs_c {ps : List Pr} {D : Option Addr} {m d n K B p : Nat} {R : Nat → Nat → Bool} {hs : List Nat} (w0 w : World) (hp : Plus w0 w) (HP : Pa w0 D ps m d) (H : Rl w B p n K R hs) (hB : w0.heap.size ≤ B) (hk : Hid (n ≤ 64 * K ∧ K ≤ 1000)) (_ : n ≤ 1000) (hm : m ≤ 1000) (hok : Hid (∀ i, i < ps.length → pairOk n (ps.getD i (0, 0)))) : Calls Tryd.prog 53 #[.pointer (some ⟨p, 0, none⟩), .slice D m d] w fun e w' => (∃ v, e = .returned v) ∧ Rl w' B p n K (fun x y => R x y || prB ps x y) hs ∧ Plus w0 w' ∧ Kept 0 w w' := by
  obtain ⟨x0, rfl⟩ := hp
  have hml := Lib.hid HP.len
  have hcap := HP.cap
  have hmax := HP.max
  have HP' := Lib.hid HP
  have HR := Lib.hid H
  have HBB := Lib.hid hB
  clear HP H hB
  go_enter Tryd.func53, Tryd.ntmps53
  go_wp2_with fail
  go_loopw [8] (fun s8 wr => Ap w0 (plus w0 x0) ps n K B p R hs s8 wr) (fun s8 _ => ((m : Int) - intOf s8).toNat)
  case atStart => exact ⟨0, rfl, Nat.zero_le _, HR.out.ext (fun a b _ _ => by simp [prB]), Plus.below (Plus.is x0), Kept.refl _ _⟩
  case round =>
    obtain ⟨j, rfl, hj, hRw, hBl, hKp⟩ := hrel
    clear HR
    obtain ⟨x3, rfl⟩ := Plus.of_below hBl
    have HRl := Lib.hid hRw
    have HB := Lib.hid hBl
    have HKP := Lib.hid hKp
    clear hRw hBl hKp
    by_cases hjl : j < m
    · obtain ⟨gf, of, rfl, hgf, hat⟩ := (HP'.out.rd.plus (Plus.is x3)) (by rw [← hml.out]; omega)
      obtain ⟨hc0, hc1⟩ := hat j (by rw [← hml.out]; exact hjl)
      have htk := take_pr (show j < ps.length by rw [← hml.out]; exact hjl)
      have ho := hok.out j (by rw [← hml.out]; exact hjl)
      obtain ⟨⟨a, b⟩, hu⟩ : ∃ u, ps.getD j (0, 0) = u := ⟨_, rfl⟩
      rw [hu] at hc0 hc1 htk ho
      unfold pairOk amongM at ho
      simp at hc0 hc1 ho
      obtain ⟨x, rfl⟩ : ∃ q : Nat, a = q := Int.eq_ofNat_of_zero_le (by omega)
      obtain ⟨y, rfl⟩ : ∃ q : Nat, b = q := Int.eq_ofNat_of_zero_le (by omega)
      have hx : x < n := by omega
      have hy : y < n := by omega
      obtain ⟨g2, c2, h, hh, hb0, hc0', hg0, hcl, hfz, hrow⟩ := HRl.out.at_ hx
      have HW := Lib.hid hrow
      have hbc := hb0.cell
      have hbl := hb0.lt
      haveI : Old p (plus w0 x3) := ⟨hb0.lt⟩
      haveI : Old g2 (plus w0 x3) := ⟨hg0⟩
      have hx' : (x : Int) < n := by omega
      have hkk := hk.out
      have HT := Lib.hid htk
      have hadd := add_addr gf of (j * 2)
      clear hrow hb0 hfz hu htk ho hat
      go_wp2_with fail
      go_region_law (rw [if_pos (by simp [Region.wanted])]; unfold Oper.wp; go_simp; (with_reducible refine (add_c _ (HW.out.plus (by repeat' (first | exact Plus.refl _ | refine Plus.alloc ?_ _ | refine Plus.plus ?_ _ | refine Plus.drew ?_ | refine Plus.drewN ?_ _))) (by omega) (by omega) (Nat.le_refl _)).mono ?_); rintro e xw ⟨⟨v, rfl⟩, hw'⟩; rw [hw']; clear hw'; dsimp only)
      all_goals go_wp2_with fail
      all_goals
        go_roundw
        case rel =>
          refine ⟨j + 1, int_eq (by omega), by have := hml.out; omega, ((((HRl.out.plus (Plus.alloc (Plus.refl _) _)).setBit hx hh.out).plus (Plus.drew (Plus.drew (Plus.refl _)))).ext (fun x' y' _ _ => ?_)), ?_, ?_⟩
          · rw [HT.out, prB_snoc]
            unfold adds
            rw [Bool.or_assoc]
          · exact (Below.set (HB.out.trans ((Plus.below (Plus.alloc (Plus.refl _) _)).mono (by simp [go_sem]))) (Nat.le_trans HBB.out (HRl.out.lowat hx hh.out))).drew.drew
          · exact HKP.out.trans ((Kept.alloc _ _ _).trans (((HW.out.plus (Plus.alloc (Plus.refl _) _)).kept).trans (Kept.plus (Plus.drew (Plus.drew (Plus.refl _))))))
        case measure => simp [intOf]; omega
    · obtain rfl : j = m := by have := hml.out; omega
      go_wp2_with fail
      go_returns
      refine ⟨⟨_, rfl⟩, HRl.out.ext (fun x y _ _ => ?_), Plus.is x3, HKP.out⟩
      rw [List.take_of_length_le (by rw [hml.out]; exact Nat.le_refl _)]
end Go.Proofs.YtmfdlcicbiincaaDoor
