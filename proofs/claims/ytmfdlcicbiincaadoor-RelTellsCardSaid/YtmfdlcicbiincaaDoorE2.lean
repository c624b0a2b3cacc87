/- Contracts: equality of bytes, of ints, of pairs. -/
import Derived.WalkKit
import Derived.WalkSpells
import Derived.WalkLawsBesides
import Derived.Handy
import Derived.Deep.RegionHeld3
import Derived.Deep.DeepCutAuto
import Derived.Deep.QuietTactic
import Derived.BigQuiet
import Derived.Lib.Hide
import Derived.KernelRfl
import Derived.WalkMore
import Derived.Deep.LoopGhost
import Derived.IntWalk
import Derived.Laws.BytesArg
import Derived.DataReads
import Derived.Test.YtmfdlcicbiincaaDoorE1b
namespace Go.Proofs.YtmfdlcicbiincaaDoor
open Go.RowKit

def By (xs : List Int) : Prop := ∀ x ∈ xs, 0 ≤ x ∧ x < 256
theorem str_inj {xs ys : List Int} (hx : By xs) (hy : By ys) (h2 : (strOfNums xs).toList = (strOfNums ys).toList) : xs = ys := by
  simp only [ByteArray.toList_eq, strOfNums_data] at h2
  induction xs generalizing ys with
  | nil => cases ys with | nil => rfl | cons y l => simp at h2
  | cons x xs ih =>
    cases ys with
    | nil => simp at h2
    | cons y ys =>
      simp only [List.map_cons, List.cons.injEq] at h2
      have e1 : x = y := by
        have a := hx x (by simp)
        have b := hy y (by simp)
        have c := congrArg UInt8.toNat h2.1
        simp at c
        omega
      rw [e1, ih (fun z hz => hx z (by simp [hz])) (fun z hz => hy z (by simp [hz])) h2.2]
theorem conv_str {A : Option Addr} {xs : List Int} {n c : Nat} {w : World} (h : Ar .u8 w A xs n c) : (convert 39 9 (.slice A n c)).run Tryd.prog w = .ok (.string (strOfNums xs)) w := by
  obtain ⟨hrd, rfl, _, _⟩ := h
  cases xs with
  | nil =>
    show (convert 39 9 (.slice A 0 c)).run Tryd.prog w = _
    rw [run_convert_bytes_string w 39 9 5 _ 0 c Tryd.underlying39 Tryd.underlying5 Tryd.underlying9]
    cases A <;> simp [Conv.bytesToString, loadCells]
    all_goals rfl
  | cons x l =>
    obtain ⟨g, o, rfl, hg, hat⟩ := hrd (by simp)
    exact run_convert_bytes_arg w 39 5 Tryd.underlying39 Tryd.underlying5 g o _ c (x :: l) rfl (fun i hi => hat i hi) 9 Tryd.underlying9
set_option maxRecDepth 100000 in
set_option maxHeartbeats 4000000 in
theorem beq_n {A C : Option Addr} {xs ys : List Int} {n c m d : Nat} {r : Bool} (w : World) (H : Hid (decide (xs = ys) = r)) (ha : Ar .u8 w A xs n c) (hb : Ar .u8 w C ys m d) (hx : By xs) (hy : By ys) : Calls Tryd.prog 90 #[.slice A n c, .slice C m d] w fun e w' => e = .returned (.bool r) ∧ Plus w w' := by
  have h1 := conv_str ha
  have h2 := conv_str hb
  have HE : Hid (((strOfNums xs).toList == (strOfNums ys).toList) = r) := Lib.hid (by
    rw [← H.out, Bool.eq_iff_iff]
    rw [beq_iff_eq, decide_eq_true_eq]
    exact ⟨str_inj hx hy, fun h => by rw [h]⟩)
  clear ha hb hx hy
  go_enter Tryd.func90, Tryd.ntmps90
  go_wp2_with fail
  go_returns
  exact ⟨ret_bool HE.out, (by repeat' (first | exact Plus.refl _ | refine Plus.alloc ?_ _ | refine Plus.plus ?_ _ | refine Plus.drew ?_ | refine Plus.drewN ?_ _))⟩
theorem take_ext {α : Type} [Inhabited α] {xs ys : List α} {k : Nat} {z : α} (h : xs.take k = ys.take k) (h1 : k < xs.length) (h2 : k < ys.length) (e : xs.getD k z = ys.getD k z) : xs.take (k + 1) = ys.take (k + 1) := by
  rw [List.take_succ_eq_append_getElem h1, List.take_succ_eq_append_getElem h2, h]
  rw [List.getD_eq_getElem?_getD, List.getD_eq_getElem?_getD, List.getElem?_eq_getElem h1, List.getElem?_eq_getElem h2] at e
  simp only [Option.getD_some] at e
  rw [e]
def EqRel (xs ys : List Int) (s : Value) : Prop := ∃ k : Nat, k ≤ xs.length ∧ s = .int .i64 k ∧ xs.take k = ys.take k
set_option maxRecDepth 100000 in
set_option maxHeartbeats 4000000 in
theorem ieq_n {A C : Option Addr} {xs ys : List Int} {n c m d : Nat} {r : Bool} (w : World) (H : Hid (decide (xs = ys) = r)) (ha : Ar .i64 w A xs n c) (hb : Ar .i64 w C ys m d) :
    Calls Tryd.prog 91 #[.slice A n c, .slice C m d] w fun e w' => e = .returned (.bool r) ∧ Plus w w' := by
  rw [← H.out]
  clear H
  obtain ⟨hrd, hlen, hcap, hmax⟩ := ha
  obtain ⟨krd, klen, kcap, kmax⟩ := hb
  subst hlen klen
  by_cases hl : xs.length = ys.length
  · have b1 : ((xs.length : Int) != (ys.length : Int)) = false := by simp [hl]
    have HL := Lib.hid hl
    clear hl
    go_enter Tryd.func91, Tryd.ntmps91
    go_wp2
    go_loopw [13] (fun s13 wr => EqRel xs ys s13 ∧ Plus w wr) (fun s13 _ => ((xs.length : Int) - intOf s13).toNat)
    case atStart => exact ⟨⟨0, by omega, rfl, rfl⟩, Plus.refl _⟩
    case round =>
      obtain ⟨⟨k, hk, rfl, he⟩, hp⟩ := hrel
      by_cases hlt : k < xs.length
      · obtain ⟨g, o, rfl, hg, hat⟩ := hrd.at_ hlt
        have hlt2 : k < ys.length := by rw [← HL.out]; exact hlt
        obtain ⟨g2, o2, rfl, hg2, hat2⟩ := krd.at_ hlt2
        have hcell := hat.plus hg hp k hlt
        have hcell2 := hat2.plus hg2 hp k hlt2
        have hadd := add_addr g o k
        have hadd2 := add_addr g2 o2 k
        have HE := Lib.hid he
        have HP := Lib.hid hp
        clear he hat hat2 hp
        obtain ⟨v, hv⟩ : ∃ v, xs.getD k 0 = v := ⟨_, rfl⟩
        obtain ⟨u, hu⟩ : ∃ u, ys.getD k 0 = u := ⟨_, rfl⟩
        rw [hv] at hcell
        rw [hu] at hcell2
        have HV := Lib.hid hv
        have HU := Lib.hid hu
        clear hv hu
        by_cases hvu : v = u
        · subst hvu
          have HT := Lib.hid (take_ext HE.out hlt hlt2 (HV.out.trans HU.out.symm))
          go_wp2_with fail
          go_quiet (fail)
          go_wp2_with fail
          go_roundw
          case rel => exact ⟨⟨k + 1, hlt, by rw [show ((k + 1 : Nat) : Int) = (k : Int) + 1 by omega], HT.out⟩, HP.out.drewN _⟩
          case measure => simp [intOf]; omega
        · have b2 : ((v : Int) != (u : Int)) = true := by simp; omega
          have HN : Hid (decide (xs = ys) = false) := Lib.hid (by simp; intro e; subst e; exact hvu (HV.out.symm.trans HU.out))
          go_wp2_with fail
          go_quiet (fail)
          go_wp2_with fail
          go_ret
          exact ⟨by rw [HN.out]; rfl, HP.out.drewN _⟩
      · obtain rfl : k = xs.length := by omega
        have HR : Hid (decide (xs = ys) = true) := Lib.hid (by
          rw [List.take_length, HL.out, List.take_length] at he
          simpa using he)
        have HP := Lib.hid hp
        clear he hp
        go_wp2_with fail
        go_ret
        exact ⟨by rw [HR.out]; rfl, HP.out⟩
  · have b1 : ((xs.length : Int) != (ys.length : Int)) = true := by simp; omega
    have HN : Hid (decide (xs = ys) = false) := Lib.hid (by simp; intro e; subst e; exact hl rfl)
    go_enter Tryd.func91, Tryd.ntmps91
    go_wp2
    go_ret
    exact ⟨by rw [HN.out]; rfl, Plus.refl _⟩
end Go.Proofs.YtmfdlcicbiincaaDoor
