/- From, Sync and Before at every log. -/
import Derived.WalkKit
import Derived.WalkSpells
import Derived.WalkLawsBesides
import Derived.Handy
import Derived.Deep.RegionHeld3
import Derived.Deep.DeepCutAuto
import Derived.Deep.QuietTactic
import Derived.BigQuiet
import Derived.Lib.Hide
import Derived.KernelRfl
import Derived.WalkMore
import Derived.Deep.LoopGhost
import Derived.IntWalk
import Derived.Deep.RegionLaw
import Derived.RangeFuncBox
import Derived.Test.YtmfdlcicbiincaaDoorK17
namespace Go.Proofs.YtmfdlcicbiincaaDoor
open Go.RowKit


/-- How many events a relation has. -/
theorem ret_ext {n K : Nat} {R R2 : Nat → Nat → Bool} {w w' : World} {e : Ending} (h : RetRl n K R w e w') (he : ∀ a b, a < n → b < 64 * K → R a b = R2 a b) : RetRl n K R2 w e w' := by
  obtain ⟨p, hs, h1, h2, h3⟩ := h
  exact ⟨p, hs, h1, h2.ext he, h3⟩
theorem from_m {l : List Ev} {ps : List Pr} {A B : Option Addr} {n c m d : Nat} {K : Nat} (w : World) (H : Lg w l ps A n c B m d) (HM : Hid (MayP l ps)) (hK : Hid (K = (n + 63) / 64)) : Calls Tryd.prog 14 #[.agg #[.slice A n c, .slice B m d]] w (RetRl n K (frmB l) w) := from_t w H HM hK
theorem sync_m {l : List Ev} {ps : List Pr} {A B : Option Addr} {n c m d : Nat} {K : Nat} (w : World) (hL : Lai w) (H : Lg w l ps A n c B m d) (HM : Hid (MayP l ps)) (hK : Hid (K = (n + 63) / 64)) : Calls Tryd.prog 16 #[.agg #[.slice A n c, .slice B m d]] w (RetRl n K (sncB l ps) w) := by
  by_cases h0 : 0 < n
  · exact sync_ct w hL H HM hK h0
  · obtain rfl : n = 0 := by omega
    obtain rfl : K = 0 := hK.out
    exact (sync_c0 w hL (fun w' hp => from_t w' (H.plus hp) HM hK)).mono fun e w' h => ret_ext h (fun a b ha _ => absurd ha (by omega))
theorem before_m {l : List Ev} {ps : List Pr} {A B : Option Addr} {n c m d : Nat} {K : Nat} (w : World) (hL : Lai w) (H : Lg w l ps A n c B m d) (HM : Hid (MayP l ps)) (hK : Hid (K = (n + 63) / 64)) : Calls Tryd.prog 18 #[.agg #[.slice A n c, .slice B m d]] w (RetRl n K (befB l ps) w) := by
  by_cases h0 : 0 < n
  · exact before_t w hL H HM hK h0
  · obtain rfl : n = 0 := by omega
    obtain rfl : K = 0 := hK.out
    exact (before_0 w (fun w' hp => sync_m w' (hL.plus hp) (H.plus hp) HM hK)).mono fun e w' h => ret_ext h (fun a b ha _ => absurd ha (by omega))
theorem from_i {l : List Ev} {ps : List Pr} {A B : Option Addr} {n c m d : Nat} {K : Nat} {R : Nat → Nat → Bool} (w : World) (H : Lg w l ps A n c B m d) (HM : Hid (MayR l ps false)) : Calls Tryd.prog 14 #[.agg #[.slice A n c, .slice B m d]] w (RetRl 0 K R w) := from_f w H HM
theorem sync_i {l : List Ev} {ps : List Pr} {A B : Option Addr} {n c m d : Nat} {K : Nat} {R : Nat → Nat → Bool} (w : World) (hL : Lai w) (H : Lg w l ps A n c B m d) (HM : Hid (MayR l ps false)) : Calls Tryd.prog 16 #[.agg #[.slice A n c, .slice B m d]] w (RetRl 0 K R w) := sync_c0 w hL (fun w' hp => from_f w' (H.plus hp) HM)
theorem before_i {l : List Ev} {ps : List Pr} {A B : Option Addr} {n c m d : Nat} {K : Nat} {R : Nat → Nat → Bool} (w : World) (hL : Lai w) (H : Lg w l ps A n c B m d) (HM : Hid (MayR l ps false)) : Calls Tryd.prog 18 #[.agg #[.slice A n c, .slice B m d]] w (RetRl 0 K R w) := before_0 w (fun w' hp => sync_i w' (hL.plus hp) (H.plus hp) HM)

-- heads: plain facts
theorem frm_take {l : List Ev} {N a b : Nat} (hb : b < N) (hN : N ≤ l.length) : frmB (l.take N) a b = frmB l a b := by
  unfold frmB
  have e1 : (l.take N).getD b default = l.getD b default := by
    rw [List.getD_eq_getElem?_getD, List.getD_eq_getElem?_getD, List.getElem?_take, if_pos hb]
  rw [e1, List.length_take]
  have e2 : decide (b < min N l.length) = decide (b < l.length) := by simp only [decide_eq_decide]; omega
  rw [e2]
theorem getD_takeE {l : List Ev} {N b : Nat} (hb : b < N) : (l.take N).getD b default = l.getD b default := by
  rw [List.getD_eq_getElem?_getD, List.getD_eq_getElem?_getD, List.getElem?_take, if_pos hb]
theorem lastB_take {l : List Ev} {N : Nat} {g : Int} : ∀ {b : Nat}, b ≤ N → lastB (l.take N) b g = lastB l b g
  | 0, _ => rfl
  | b + 1, h => by
    unfold lastB
    rw [getD_takeE (show b < N by omega), lastB_take (show b ≤ N by omega)]
theorem edg_take {l : List Ev} {ps : List Pr} {N a b : Nat} (ha : a < N) (hb : b < N) (hN : N ≤ l.length) : edgB (l.take N) (ps.filter (amB N)) a b = edgB l ps a b := by
  unfold edgB sncB synB stpB
  rw [frm_take hb hN, getD_takeE ha, getD_takeE hb, lastB_take (Nat.le_of_lt hb), List.length_take]
  have e1 : decide (b < min N l.length) = decide (b < l.length) := by simp only [decide_eq_decide]; omega
  have e2 : prB (ps.filter (amB N)) a b = prB ps a b := by
    unfold prB
    simp only [decide_eq_decide, List.mem_filter]
    constructor
    · exact fun h => h.1
    · intro h
      refine ⟨h, ?_⟩
      unfold amB amongM
      simp
      omega
  rw [e1, e2]
theorem bef_take {l : List Ev} {ps : List Pr} (h : MayP l ps) {N a b : Nat} (hb : b < N) (hN : N ≤ l.length) : befB (l.take N) (ps.filter (amB N)) a b = befB l ps a b := by
  have h2 := may_head h hN
  have go1 : ∀ x y, TrG (edgB (l.take N) (ps.filter (amB N))) x y → TrG (edgB l ps) x y := fun x y q => by
    induction q with
    | one q =>
      have f := edg_fwd h2 _ _ q
      rw [List.length_take] at f
      rw [edg_take (by omega) (by omega) hN] at q
      exact .one q
    | step q _ ih =>
      have f := edg_fwd h2 _ _ q
      rw [List.length_take] at f
      rw [edg_take (by omega) (by omega) hN] at q
      exact .step q ih
  have go2 : ∀ x y, TrG (edgB l ps) x y → y < N → TrG (edgB (l.take N) (ps.filter (amB N))) x y := fun x y q => by
    induction q with
    | one q =>
      intro hy
      have f := edg_fwd h _ _ q
      rw [← edg_take (by omega) hy hN] at q
      exact .one q
    | step q k ih =>
      intro hy
      have f := edg_fwd h _ _ q
      have f2 := k.fwd (edg_fwd h)
      rw [← edg_take (by omega) (by omega) hN] at q
      exact .step q (ih hy)
  unfold befB
  cases h1 : cloB (edgB (l.take N) (ps.filter (amB N))) a b
  · cases h3 : cloB (edgB l ps) a b
    · rfl
    · rw [cloB_iff.2 (go2 _ _ (cloB_iff.1 h3) hb)] at h1
      cases h1
  · rw [cloB_iff.2 (go1 _ _ (cloB_iff.1 h1))]
end Go.Proofs.YtmfdlcicbiincaaDoor
