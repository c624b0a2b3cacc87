/- Before. -/
import Derived.WalkKit
import Derived.WalkSpells
import Derived.WalkLawsBesides
import Derived.Handy
import Derived.Deep.RegionHeld3
import Derived.Deep.DeepCutAuto
import Derived.Deep.QuietTactic
import Derived.BigQuiet
import Derived.Lib.Hide
import Derived.KernelRfl
import Derived.WalkMore
import Derived.Deep.LoopGhost
import Derived.IntWalk
import Derived.Deep.RegionLaw
import Derived.RangeFuncBox
import Derived.Test.YtmfdlcicbiincaaDoorK16
import Derived.Test.YtmfdlcicbiincaaDoorK13b
namespace Go.Proofs.YtmfdlcicbiincaaDoor
open Go.RowKit


/-- Synchronizes with. -/
def sncB (l : List Ev) (ps : List Pr) (a b : Nat) : Bool := (frmB l a b && synB l a b) || prB ps a b
/-- What happens before is made of. -/
def edgB (l : List Ev) (ps : List Pr) (a b : Nat) : Bool := sncB l ps a b || stpB l a b
noncomputable def befB (l : List Ev) (ps : List Pr) (a b : Nat) : Bool := cloB (edgB l ps) a b
theorem frm_fwd {l : List Ev} {ps : List Pr} (h : MayP l ps) {a b : Nat} (q : frmB l a b = true) : a < b ∧ b < l.length := by
  unfold frmB at q
  simp only [Bool.and_eq_true, decide_eq_true_eq] at q
  obtain ⟨q1, q2⟩ := q
  obtain ⟨i, hi, e⟩ := List.getElem_of_mem q1
  have r := from_lt h q2 hi
  rw [List.getD_eq_getElem?_getD, List.getElem?_eq_getElem hi] at r
  simp only [Option.getD_some] at r
  omega
theorem snc_fwd {l : List Ev} {ps : List Pr} (h : MayP l ps) {a b : Nat} (q : sncB l ps a b = true) : a < b ∧ b < l.length := by
  unfold sncB at q
  simp only [Bool.or_eq_true, Bool.and_eq_true] at q
  rcases q with q | q
  · exact frm_fwd h q.1
  · unfold prB at q
    simp only [decide_eq_true_eq] at q
    obtain ⟨i, hi, e⟩ := List.getElem_of_mem q
    have r := h.2.2.1 i hi
    rw [List.getD_eq_getElem?_getD, List.getElem?_eq_getElem hi] at r
    simp only [Option.getD_some] at r
    rw [e] at r
    unfold pairOk amongM at r
    simp at r
    omega
theorem edg_fwd {l : List Ev} {ps : List Pr} (h : MayP l ps) (a b : Nat) (q : edgB l ps a b = true) : a < b ∧ b < l.length := by
  unfold edgB at q
  simp only [Bool.or_eq_true] at q
  rcases q with q | q
  · exact snc_fwd h q
  · unfold stpB at q
    simp only [Bool.and_eq_true, decide_eq_true_eq] at q
    exact ⟨lastB_lt q.2, q.1⟩
theorem sync_c0 {A B : Option Addr} {n c m d : Nat} {K : Nat} {R : Nat → Nat → Bool} (w : World) (hL : Lai w) (hF : ∀ w', Plus w w' → Calls Tryd.prog 14 #[.agg #[.slice A n c, .slice B m d]] w' (RetRl 0 K R w')) : Calls Tryd.prog 16 #[.agg #[.slice A n c, .slice B m d]] w (RetRl 0 K R w) := callsIn_wide.1 (sync_0 w hL hF)
theorem sync_ct {l : List Ev} {ps : List Pr} {A B : Option Addr} {n c m d : Nat} {K : Nat} (w : World) (hL : Lai w) (H : Lg w l ps A n c B m d) (HM : Hid (MayP l ps)) (hK : Hid (K = (n + 63) / 64)) (h0 : 0 < n) : Calls Tryd.prog 16 #[.agg #[.slice A n c, .slice B m d]] w (RetRl n K (sncB l ps) w) := callsIn_wide.1 (sync_t w hL H HM hK h0)
theorem steps_c {l : List Ev} {A : Option Addr} {rs : List ER} {n c K B p : Nat} {R : Nat → Nat → Bool} {hs : List Nat} (w0 w : World) (hp : Plus w0 w) (HE : Es w0 A rs n c) (hl : Hid (rs.map (·.e) = l)) (H : Rl w B p n K R hs) (hB : w0.heap.size ≤ B) (hk : Hid (n ≤ 64 * K ∧ K ≤ 1000)) (hn : n ≤ 1000) (hg : Hid (∀ b, b < n → 0 ≤ (l.getD b default).g ∧ (l.getD b default).g ≤ 1000)) : Calls Tryd.prog 55 #[.pointer (some ⟨p, 0, none⟩), .slice A n c] w fun e w' => (∃ v, e = .returned v) ∧ Rl w' B p n K (fun x y => R x y || stpB l x y) hs ∧ Plus w0 w' := callsIn_wide.1 (addSteps_in w0 w hp HE hl H hB hk hn hg)
theorem compl_c {E : Nat → Nat → Bool} {B p n K : Nat} {hs : List Nat} (w0 w : World) (hp : Plus w0 w) (hL : Lai w0) (H : Rl w B p n K E hs) (hB : w0.heap.size ≤ B) (hk : Hid (n ≤ 64 * K ∧ K ≤ 1000)) (hK : Hid (K = (n + 63) / 64)) (hn : n ≤ 1000) (hE : Hid (∀ a b, E a b = true → a < b ∧ b < n)) : Calls Tryd.prog 56 #[.pointer (some ⟨p, 0, none⟩)] w fun e w' => (∃ v, e = .returned v) ∧ (∃ hs', Rl w' B p n K (cloB E) hs') ∧ Plus w0 w' := callsIn_wide.1 (complete_in w0 w hp hL H hB hk hK hn hE)
set_option maxRecDepth 100000 in
set_option maxHeartbeats 4000000 in
theorem before_0 {A B : Option Addr} {n c m d : Nat} {K : Nat} {R : Nat → Nat → Bool} (w : World) (hS : ∀ w', Plus w w' → Calls Tryd.prog 16 #[.agg #[.slice A n c, .slice B m d]] w' (RetRl 0 K R w')) : Calls Tryd.prog 18 #[.agg #[.slice A n c, .slice B m d]] w (RetRl 0 K R w) := by
  go_enter Tryd.func18, Tryd.ntmps18
  go_wp2_with (first
    | (go_at_call 16; (refine (hS _ (by repeat' (first | exact Plus.refl _ | refine Plus.alloc ?_ _ | refine Plus.plus ?_ _ | refine Plus.drew ?_ | refine Plus.drewN ?_ _))).mono ?_); rintro e w' ⟨p1, hs1, rfl, hRl1, ⟨x1, rfl⟩⟩; have HR1 := Lib.hid hRl1; clear hRl1)
    | (go_at_call 42; (refine (len_r _ HR1.out).mono ?_); rintro e w' ⟨rfl, hw'⟩; rw [hw']; clear hw' w'))
  go_returns
  exact ⟨p1, hs1, rfl, HR1.out.base (by simp), (by repeat' (first | exact Plus.refl _ | refine Plus.alloc ?_ _ | refine Plus.plus ?_ _ | refine Plus.drew ?_ | refine Plus.drewN ?_ _))⟩
set_option maxRecDepth 100000 in
set_option maxHeartbeats 4000000 in
theorem before_t {l : List Ev} {ps : List Pr} {A B : Option Addr} {n c m d : Nat} {K : Nat} (w : World) (hL : Lai w) (H : Lg w l ps A n c B m d) (HM : Hid (MayP l ps)) (hK : Hid (K = (n + 63) / 64)) (h0 : 0 < n) : Calls Tryd.prog 18 #[.agg #[.slice A n c, .slice B m d]] w (RetRl n K (befB l ps) w) := by
  have hn : n ≤ 1000 := by rw [H.len.1]; exact HM.out.1
  have hnl := Lib.hid H.len.1
  have hk := Lib.hid (show n ≤ 64 * K ∧ K ≤ 1000 by rw [hK.out]; omega)
  have HE := Lib.hid (show ∀ a b, edgB l ps a b = true → a < b ∧ b < n by rw [hnl.out]; exact edg_fwd HM.out)
  have hg := Lib.hid (show ∀ b, b < n → 0 ≤ (l.getD b default).g ∧ (l.getD b default).g ≤ 1000 from fun b hb => by
    have q := (HM.out.2.2.2 b (by rw [← hnl.out]; exact hb)).1
    unfold shapedM at q
    simp only [Bool.and_eq_true, decide_eq_true_eq] at q
    obtain ⟨⟨q1, q2⟩, _⟩ := q
    exact ⟨q1, by omega⟩)
  obtain ⟨⟨rs, hrl, hes⟩, hpa⟩ := H
  have HLG := Lib.hid (show Lg w l ps A n c B m d from ⟨⟨rs, hrl, hes⟩, hpa⟩)
  have HES := Lib.hid hes
  have HRL := Lib.hid hrl
  have HL := Lib.hid hL
  clear hes hpa hrl hL
  go_enter Tryd.func18, Tryd.ntmps18
  go_wp2_with (first
    | (go_at_call 16; (refine (sync_ct _ (HL.out.plus (by repeat' (first | exact Plus.refl _ | refine Plus.alloc ?_ _ | refine Plus.plus ?_ _ | refine Plus.drew ?_ | refine Plus.drewN ?_ _))) (HLG.out.plus (by repeat' (first | exact Plus.refl _ | refine Plus.alloc ?_ _ | refine Plus.plus ?_ _ | refine Plus.drew ?_ | refine Plus.drewN ?_ _))) HM hK h0).mono ?_); rintro e w' ⟨p1, hs1, rfl, hRl1, ⟨x1, rfl⟩⟩; have HR1 := Lib.hid hRl1; clear hRl1)
    | (go_at_call 42; (refine (len_r _ HR1.out).mono ?_); rintro e w' ⟨rfl, hw'⟩; rw [hw']; clear hw' w')
    | (go_at_call 55; (refine (steps_c (w.alloc (.cells #[.slice A n c, .slice B m d] 25)) _ (Plus.is x1) (HES.out.plus (by repeat' (first | exact Plus.refl _ | refine Plus.alloc ?_ _ | refine Plus.plus ?_ _ | refine Plus.drew ?_ | refine Plus.drewN ?_ _))) HRL HR1.out (Nat.le_refl _) hk hn hg).mono ?_); rintro e w' ⟨⟨v, rfl⟩, hRl2, ⟨x2, rfl⟩⟩; have HR2 := Lib.hid hRl2; clear hRl2)
    | (go_at_call 56; (refine (compl_c (E := edgB l ps) (w.alloc (.cells #[.slice A n c, .slice B m d] 25)) _ (Plus.is x2) (HL.out.plus (by repeat' (first | exact Plus.refl _ | refine Plus.alloc ?_ _ | refine Plus.plus ?_ _ | refine Plus.drew ?_ | refine Plus.drewN ?_ _))) HR2.out (Nat.le_refl _) hk hK hn HE).mono ?_); rintro e w' ⟨⟨v, rfl⟩, ⟨hs3, hRl3⟩, ⟨x3, rfl⟩⟩; have HR3 := Lib.hid hRl3; clear hRl3))
  go_returns
  exact ⟨p1, hs3, rfl, HR3.out.base (by simp), (by repeat' (first | exact Plus.refl _ | refine Plus.alloc ?_ _ | refine Plus.plus ?_ _ | refine Plus.drew ?_ | refine Plus.drewN ?_ _))⟩
end Go.Proofs.YtmfdlcicbiincaaDoor
