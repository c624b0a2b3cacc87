/- EventHeads, at any log. -/
import Derived.WalkKit
import Derived.WalkSpells
import Derived.WalkLawsBesides
import Derived.Handy
import Derived.Deep.RegionHeld3
import Derived.Deep.DeepCutAuto
import Derived.Deep.QuietTactic
import Derived.BigQuiet
import Derived.Lib.Hide
import Derived.KernelRfl
import Derived.WalkMore
import Derived.Deep.LoopGhost
import Derived.IntWalk
import Derived.Test.YtcpmkfoelhopiaaL5v
namespace Go.Proofs.Ytcpmkfoelhopiaa
open Go.RowKit

theorem mayR_ex (l : List Ev) (ps : List Pr) : ∃ r, MayR l ps r := by
  by_cases h : MayP l ps
  · exact ⟨true, ⟨fun _ => rfl, fun _ => h⟩⟩
  · exact ⟨false, ⟨fun q => absurd q h, fun q => by cases q⟩⟩
theorem mayR_yes {l : List Ev} {ps : List Pr} (h : MayP l ps) : MayR l ps true := ⟨fun _ => rfl, fun _ => h⟩
theorem sameR_refl (l : List Ev) (ps : List Pr) : SameR l l ps ps true := by unfold SameR; simp
theorem hd_min (z y : Int) (L : Nat) : hdN y (min (hdN z L) L) = hdN (if y < z then y else z) L := by
  unfold hdN
  split <;> omega
theorem hd_two (l : List Ev) (ps : List Pr) (z y : Int) : l.take (hdN (if y < z then y else z) l.length) = (l.take (hdN z l.length)).take (hdN y (l.take (hdN z l.length)).length) ∧ ps.filter (amB (hdN (if y < z then y else z) l.length)) = (ps.filter (amB (hdN z l.length))).filter (amB (hdN y (l.take (hdN z l.length)).length)) := by
  have e : hdN y (l.take (hdN z l.length)).length = hdN (if y < z then y else z) l.length := by rw [List.length_take, hd_min]
  have hle : hdN (if y < z then y else z) l.length ≤ hdN z l.length := by unfold hdN; split <;> omega
  rw [e, List.take_take, Nat.min_eq_left hle, filter_filter' _ hle]
  exact ⟨rfl, rfl⟩
theorem heads_w {l : List Ev} {ps : List Pr} {A B : Option Addr} {n c m d : Nat} (z y : Int) (w : World) (H : Lg w l ps A n c B m d) : Calls Try.prog 5 #[.agg #[.slice A n c, .slice B m d], .int .i64 z, .int .i64 y] w fun e w' => e = .returned (.bool true) ∧ Plus w w' := by
  obtain ⟨hn, hm⟩ := H.len
  obtain ⟨r0, hr⟩ := mayR_ex l ps
  obtain ⟨t1, t2⟩ := hd_two l ps z y
  have hN : hdN z l.length ≤ l.length := by unfold hdN; omega
  have k1 : (l.take (hdN z l.length)).length ≤ n := by rw [List.length_take]; omega
  have k2 : (ps.filter (amB (hdN z l.length))).length ≤ m := by rw [hm]; exact List.length_filter_le _ _
  have k3 : (((l.take (hdN z l.length)).length : Nat) : Int) ≤ z ∨ (l.take (hdN z l.length)).length = 0 := by rw [List.length_take]; unfold hdN; omega
  cases r0
  · by_cases h : y < z
    · rw [if_pos h] at t1 t2
      exact heads_fy w (Lib.hid H) (Lib.hid ⟨rfl, rfl, rfl, rfl⟩) (Lib.hid ⟨rfl, rfl, rfl, rfl⟩) (Lib.hid ⟨t1, t2, rfl, rfl⟩) k1 k2 (Lib.hid k3) h (Lib.hid hr) (Lib.hid (sameR_refl _ _))
    · rw [if_neg h] at t1 t2
      exact heads_fz w (Lib.hid H) (Lib.hid ⟨rfl, rfl, rfl, rfl⟩) (Lib.hid ⟨rfl, rfl, rfl, rfl⟩) (Lib.hid ⟨t1, t2, rfl, rfl⟩) k1 k2 (Lib.hid k3) (by omega) (Lib.hid hr) (Lib.hid (sameR_refl _ _))
  · have hM : MayP l ps := hr.2 rfl
    have hM1 := may_head hM hN
    have hN2 : hdN y (l.take (hdN z l.length)).length ≤ (l.take (hdN z l.length)).length := by unfold hdN; omega
    have hM2 := may_head hM1 hN2
    have h4 : l.take (hdN (n : Int) l.length) = l ∧ ps.filter (amB (hdN (n : Int) l.length)) = ps ∧ n = l.length ∧ m = ps.length := by
      have e : hdN (n : Int) l.length = l.length := by unfold hdN; omega
      rw [e]
      exact ⟨List.take_length, may_filter hM, hn, hm⟩
    by_cases h : y < z
    · rw [if_pos h] at t1 t2
      exact heads_ty w (Lib.hid H) (Lib.hid ⟨rfl, rfl, rfl, rfl⟩) (Lib.hid ⟨rfl, rfl, rfl, rfl⟩) (Lib.hid ⟨t1, t2, rfl, rfl⟩) k1 k2 (Lib.hid k3) h (Lib.hid hr) (Lib.hid (mayR_yes hM1)) (Lib.hid (mayR_yes hM2)) (Lib.hid h4) (Lib.hid (sameR_refl _ _)) (Lib.hid (sameR_refl _ _))
    · rw [if_neg h] at t1 t2
      exact heads_tz w (Lib.hid H) (Lib.hid ⟨rfl, rfl, rfl, rfl⟩) (Lib.hid ⟨rfl, rfl, rfl, rfl⟩) (Lib.hid ⟨t1, t2, rfl, rfl⟩) k1 k2 (Lib.hid k3) (by omega) (Lib.hid hr) (Lib.hid (mayR_yes hM1)) (Lib.hid (mayR_yes hM2)) (Lib.hid h4) (Lib.hid (sameR_refl _ _)) (Lib.hid (sameR_refl _ _))
end Go.Proofs.Ytcpmkfoelhopiaa
