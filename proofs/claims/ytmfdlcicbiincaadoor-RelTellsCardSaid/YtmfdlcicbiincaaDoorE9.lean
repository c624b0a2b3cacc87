/- among, May. -/
import Derived.WalkKit
import Derived.WalkSpells
import Derived.WalkLawsBesides
import Derived.Handy
import Derived.Deep.RegionHeld3
import Derived.Deep.DeepCutAuto
import Derived.Deep.QuietTactic
import Derived.BigQuiet
import Derived.Lib.Hide
import Derived.KernelRfl
import Derived.WalkMore
import Derived.Deep.LoopGhost
import Derived.IntWalk
import Derived.Test.YtmfdlcicbiincaaDoorE8
namespace Go.Proofs.YtmfdlcicbiincaaDoor
open Go.RowKit

def amongM (p q : Int) (n : Int) : Bool := decide (0 ≤ p) && decide (0 ≤ q) && decide (p < n) && decide (q < n)
set_option maxRecDepth 100000 in
set_option maxHeartbeats 4000000 in
theorem among_le {p q n : Int} (w : World) (h : p ≤ q) : Calls Tryd.prog 57 #[.agg #[.int .i64 p, .int .i64 q], .int .i64 n] w fun e w' => e = .returned (.bool (amongM p q n)) ∧ Plus w w' := by
  go_enter Tryd.func57, Tryd.ntmps57
  go_wp2_with fail
  all_goals go_returns
  all_goals exact ⟨ret_bool (by unfold amongM; rw [Bool.eq_iff_iff]; simp; try omega), (by repeat' (first | exact Plus.refl _ | refine Plus.alloc ?_ _ | refine Plus.plus ?_ _ | refine Plus.drew ?_ | refine Plus.drewN ?_ _))⟩
set_option maxRecDepth 100000 in
set_option maxHeartbeats 4000000 in
theorem among_gt {p q n : Int} (w : World) (h : q < p) : Calls Tryd.prog 57 #[.agg #[.int .i64 p, .int .i64 q], .int .i64 n] w fun e w' => e = .returned (.bool (amongM p q n)) ∧ Plus w w' := by
  go_enter Tryd.func57, Tryd.ntmps57
  go_wp2_with fail
  all_goals go_returns
  all_goals exact ⟨ret_bool (by unfold amongM; rw [Bool.eq_iff_iff]; simp; try omega), (by repeat' (first | exact Plus.refl _ | refine Plus.alloc ?_ _ | refine Plus.plus ?_ _ | refine Plus.drew ?_ | refine Plus.drewN ?_ _))⟩
theorem among_n {p q n : Int} {c : Bool} (w : World) (H : Hid (amongM p q n = c)) : Calls Tryd.prog 57 #[.agg #[.int .i64 p, .int .i64 q], .int .i64 n] w fun e w' => e = .returned (.bool c) ∧ Plus w w' := by
  rw [← H.out]
  by_cases h : p ≤ q
  · exact among_le w h
  · exact among_gt w (by omega)
def pairOk (n : Nat) (p : Pr) : Prop := p.1 < p.2 ∧ amongM p.1 p.2 n = true
def MayP (l : List Ev) (ps : List Pr) : Prop := l.length ≤ 1000 ∧ ps.length ≤ 1000 ∧ (∀ i, i < ps.length → pairOk l.length (ps.getD i (0, 0))) ∧ Acc l
def PaRel (n : Nat) (ps : List Pr) (s : Value) : Prop := ∃ k : Nat, k ≤ ps.length ∧ s = .int .i64 k ∧ ∀ i, i < k → pairOk n (ps.getD i (0, 0))
theorem eq_false_of {P : Prop} {c : Bool} (h : P ↔ c = true) (hn : ¬ P) : c = false := by cases c with | false => rfl | true => exact absurd (h.2 rfl) hn
theorem eq_true_of {P : Prop} {c : Bool} (h : P ↔ c = true) (hn : P) : c = true := h.1 hn
set_option maxRecDepth 100000 in
set_option maxHeartbeats 4000000 in
theorem may_n {A B : Option Addr} {rs : List ER} {ps : List Pr} {n c m d : Nat} {r : Bool} (w : World) (H : Hid (MayP (rs.map (·.e)) ps ↔ r = true)) (he : Es w A rs n c) (hp : Pa w B ps m d) : Calls Tryd.prog 20 #[.agg #[.slice A n c, .slice B m d]] w fun e w' => e = .returned (.bool r) ∧ Plus w w' := by
  obtain rfl := he.len
  obtain rfl := hp.len
  have hcap := he.cap
  have hmax := he.max
  have hcap2 := hp.cap
  have hmax2 := hp.max
  have HE := Lib.hid he
  have HP := Lib.hid hp
  clear he hp
  by_cases hl : rs.length ≤ 1000
  · by_cases hl2 : ps.length ≤ 1000
    · go_enter Tryd.func20, Tryd.ntmps20
      go_wp2_with fail
      go_loopw [18] (fun s18 wr => PaRel rs.length ps s18 ∧ Plus (w.alloc (.cells #[.slice A rs.length c, .slice B ps.length d] 25)) wr) (fun s18 _ => ((ps.length : Int) - intOf s18).toNat)
      case atStart => exact ⟨⟨0, by omega, rfl, fun i h => absurd h (by omega)⟩, Plus.refl _⟩
      case round =>
        obtain ⟨⟨k, hk, rfl, hall⟩, ⟨x, rfl⟩⟩ := hrel
        by_cases hlt : k < ps.length
        · obtain ⟨g, o, rfl, hg, hat⟩ := (HP.out.rd.plus (Plus.alloc (Plus.refl _) (.cells #[.slice A rs.length c, .slice B ps.length d] 25) |>.plus x)) (by omega)
          obtain ⟨hc0, hc1⟩ := hat k hlt
          have hadd := add_addr g o (k * 2)
          have hadd3 := add_addr g (o + k * 2) 1
          obtain ⟨v, hv⟩ : ∃ v, ps.getD k (0, 0) = v := ⟨_, rfl⟩
          rw [hv] at hc0 hc1
          obtain ⟨p, q⟩ := v
          simp only at hc0 hc1
          have HV := Lib.hid hv
          have HALL := Lib.hid hall
          clear hv hall hat
          by_cases hpq : p < q
          · obtain ⟨a, ha⟩ : ∃ a, amongM p q (rs.length : Nat) = a := ⟨_, rfl⟩
            have HN := Lib.hid ha
            clear ha
            cases a
            · have HR : Hid (r = false) := Lib.hid (eq_false_of H.out fun hh => by
                have q := (hh.2.2.1 k hlt).2
                rw [HV.out, List.length_map, HN.out] at q
                cases q)
              go_wp2_with (go_at_call 57; (with_reducible refine (among_n _ HN).mono ?_); rintro e w1 ⟨rfl, ⟨x1, rfl⟩⟩)
              go_returns
              exact ⟨ret_bool HR.out.symm, (by repeat' (first | exact Plus.refl _ | refine Plus.alloc ?_ _ | refine Plus.plus ?_ _ | refine Plus.drew ?_ | refine Plus.drewN ?_ _))⟩
            · go_wp2_with (go_at_call 57; (with_reducible refine (among_n _ HN).mono ?_); rintro e w1 ⟨rfl, ⟨x1, rfl⟩⟩)
              go_roundw
              case rel => exact ⟨⟨k + 1, hlt, by rw [show ((k + 1 : Nat) : Int) = (k : Int) + 1 by omega], fun i hi => by
                by_cases e : i = k
                · rw [e, HV.out]; exact ⟨hpq, HN.out⟩
                · exact HALL.out i (by omega)⟩, (by repeat' (first | exact Plus.refl _ | refine Plus.alloc ?_ _ | refine Plus.plus ?_ _ | refine Plus.drew ?_ | refine Plus.drewN ?_ _))⟩
              case measure => simp [intOf]; omega
          · have HR : Hid (r = false) := Lib.hid (eq_false_of H.out fun hh => by
              have q := (hh.2.2.1 k hlt).1
              rw [HV.out] at q
              exact hpq q)
            go_wp2_with fail
            go_returns
            exact ⟨ret_bool HR.out.symm, (by repeat' (first | exact Plus.refl _ | refine Plus.alloc ?_ _ | refine Plus.plus ?_ _ | refine Plus.drew ?_ | refine Plus.drewN ?_ _))⟩
        · obtain rfl : k = ps.length := by omega
          obtain ⟨m, hm⟩ := accN_ex (rs.map (·.e))
          have HA := Lib.hid hm
          have HR : Hid (decide ((m : Int) = (rs.length : Int)) = r) := Lib.hid (by
            have q := accN_acc hm
            rw [List.length_map] at q
            rw [Bool.eq_iff_iff, ← H.out]
            simp only [decide_eq_true_eq]
            refine ⟨fun h => ⟨by rw [List.length_map]; exact hl, hl2, fun i hi => by rw [List.length_map]; exact hall i hi, q.1 (by omega)⟩, fun h => ?_⟩
            have := q.2 h.2.2.2
            omega)
          clear hm hall
          go_wp2_with fail
          refine wp_region_plus (by kernel_rfl) (by kernel_rfl) ?_
          repeat (go_big_quiet_step (((go_at_call 58; exact calls_plus (accepted_n _ HA (HE.out.plus (by repeat' (first | exact Plus.refl _ | refine Plus.alloc ?_ _ | refine Plus.plus ?_ _ | refine Plus.drew ?_ | refine Plus.drewN ?_ _))) (by omega))))))
          refine wpQuiet_nil ?_
          intro _ hw'
          obtain ⟨z, rfl⟩ := hw'
          go_wp2_with fail
          go_returns
          exact ⟨ret_bool (by rw [← HR.out]; rw [Bool.eq_iff_iff]; simp), (by repeat' (first | exact Plus.refl _ | refine Plus.alloc ?_ _ | refine Plus.plus ?_ _ | refine Plus.drew ?_ | refine Plus.drewN ?_ _))⟩
    · have HR : Hid (r = false) := Lib.hid (eq_false_of H.out fun hh => hl2 hh.2.1)
      go_enter Tryd.func20, Tryd.ntmps20
      go_wp2_with fail
      go_returns
      exact ⟨ret_bool HR.out.symm, (by repeat' (first | exact Plus.refl _ | refine Plus.alloc ?_ _ | refine Plus.plus ?_ _ | refine Plus.drew ?_ | refine Plus.drewN ?_ _))⟩
  · have HR : Hid (r = false) := Lib.hid (eq_false_of H.out fun hh => hl (by have q := hh.1; rw [List.length_map] at q; exact q))
    go_enter Tryd.func20, Tryd.ntmps20
    go_wp2_with fail
    go_returns
    exact ⟨ret_bool HR.out.symm, (by repeat' (first | exact Plus.refl _ | refine Plus.alloc ?_ _ | refine Plus.plus ?_ _ | refine Plus.drew ?_ | refine Plus.drewN ?_ _))⟩
end Go.Proofs.YtmfdlcicbiincaaDoor
