/- Contracts: Ascii, Plain. -/
import Derived.WalkKit
import Derived.WalkSpells
import Derived.WalkLawsBesides
import Derived.Handy
import Derived.Deep.RegionHeld3
import Derived.Deep.DeepCutAuto
import Derived.Deep.QuietTactic
import Derived.BigQuiet
import Derived.Lib.Hide
import Derived.KernelRfl
import Derived.WalkMore
import Derived.Deep.LoopGhost
import Derived.Laws.BitsAllLaws
import Derived.Laws.DeepBits32
import Derived.Test.YtmlfcmmgoiigkaaGreatDoorProg
import Derived.Test.YtmlfcmmgoiigkaaGreatDoorW
namespace Go.Proofs.YtmlfcmmgoiigkaaGreatDoor
open Go.RowKit


theorem infoU16 : (Tryz.prog.info? 88).map (fun i => (i.zero, i.size, i.bytes)) = some (some (.int .u16 0), 1, 2) := by kernel_rfl
theorem infoU8 : (Tryz.prog.info? 5).map (fun i => (i.zero, i.size, i.bytes)) = some (some (.int .u8 0), 1, 1) := by kernel_rfl
theorem zeros_cells (k : IntKind) (n : Nat) : madeCells #[.int k 0] n = Array.replicate n (.int k 0) := by
  apply Array.ext'
  rw [toList_madeCells_one]
  simp
/-- The units that were laid, then zeros. -/
def fillU (s : List Nat) (k : Nat) : List Nat := s.take k ++ List.replicate (s.length - k) 0
theorem fillU_len (s : List Nat) (k : Nat) (h : k ≤ s.length) : (fillU s k).length = s.length := by unfold fillU; simp; omega
theorem fillU_zero (s : List Nat) : fillU s 0 = List.replicate s.length 0 := by unfold fillU; simp
theorem fillU_all (s : List Nat) : fillU s s.length = s := by unfold fillU; simp
theorem fillU_set (s : List Nat) (k : Nat) (h : k < s.length) : (fillU s k).set k (s.getD k 0) = fillU s (k + 1) := by
  apply List.ext_getElem?
  intro i
  unfold fillU
  rw [List.getElem?_set, List.length_append, List.length_take, List.length_replicate]
  by_cases hi : k = i
  · subst hi
    rw [if_pos rfl, if_pos (by omega), List.getElem?_append_left (by rw [List.length_take]; omega), List.getElem?_take, if_pos (by omega), List.getElem?_eq_getElem h, List.getD_eq_getElem?_getD, List.getElem?_eq_getElem h]
    rfl
  · rw [if_neg hi]
    by_cases hk : i < k
    · rw [List.getElem?_append_left (by rw [List.length_take]; omega), List.getElem?_append_left (by rw [List.length_take]; omega), List.getElem?_take, List.getElem?_take, if_pos hk, if_pos (by omega)]
    · rw [List.getElem?_append_right (by rw [List.length_take]; omega), List.getElem?_append_right (by rw [List.length_take]; omega), List.length_take, List.length_take, List.getElem?_replicate, List.getElem?_replicate]
      have e1 : min k s.length = k := by omega
      have e2 : min (k + 1) s.length = k + 1 := by omega
      rw [e1, e2]
      by_cases h2 : i < s.length
      · rw [if_pos (by omega), if_pos (by omega)]
      · rw [if_neg (by omega), if_neg (by omega)]
/-- A string's bytes as numbers. -/
def nats (s : ByteArray) : List Nat := s.data.toList.map UInt8.toNat
theorem nats_len (s : ByteArray) : (nats s).length = s.size := by unfold nats; simp
theorem nats_get (s : ByteArray) (k : Nat) (h : k < s.size) : (nats s).getD k 0 = s[k].toNat := by
  unfold nats
  rw [List.getD_eq_getElem?_getD, List.getElem?_map]
  have : s.data.toList[k]? = some s[k] := by
    rw [List.getElem?_eq_getElem (by simpa using h)]
    rfl
  rw [this]
  rfl
theorem nats_B (s : ByteArray) : isB (nats s) := fun x hx => by
  unfold nats at hx
  obtain ⟨c, _, rfl⟩ := List.mem_map.1 hx
  exact c.toNat_lt
/-- A slice of new memory reads as xs. -/
def NewR (k : IntKind) (xs : List Nat) (w : World) (e : Ending) (w' : World) : Prop :=
  ∃ (A : Option Addr) (c : Nat), e = .returned (.slice A xs.length c) ∧ xs.length ≤ c ∧ c ≤ 9223372036854775807 ∧ Rd k w' A xs ∧ Plus w w'
def AscRel (s : List Nat) (w : World) (g : Nat) (s10 : Value) (wr : World) : Prop := ∃ k : Nat, k ≤ s.length ∧ s10 = .int .i64 k ∧ Own .u16 wr g (fillU s k) ∧ Below w.heap.size w wr

set_option maxRecDepth 100000 in
set_option maxHeartbeats 1000000 in
theorem ascii_c (s : ByteArray) (hs : s.size ≤ 140737488355328) (w : World) : Calls Tryz.prog 61 #[.string s] w (NewR .u16 (nats s) w) := by
  have hmk := run_make_row' (P := Tryz.prog) 27 88 (.int .u16 0) 2 Tryz.underlying27 infoU16 rfl .i64 .i64 s.size (by omega) (by omega)
  rw [zeros_cells] at hmk
  go_enter Tryz.func61, Tryz.ntmps61
  go_wp2
  clear hmk
  go_loopw [10] (AscRel (nats s) w w.heap.size) (fun s10 _ => ((s.size : Int) - intOf s10).toNat)
  case atStart => exact ⟨0, by omega, rfl, by rw [fillU_zero, nats_len]; exact Own.zeros .u16 w _ 88 _ rfl, (Below.refl _ _).alloc (Nat.le_refl _) _⟩
  case round =>
    obtain ⟨k, hk, rfl, hO, hB⟩ := hrel
    have HL := Lib.hid (nats_len s)
    rw [HL.out] at hk
    by_cases hlt : k < s.size
    · have HG := Lib.hid (nats_get s k hlt)
      have hb := s[k].toNat_lt
      have HS := Lib.hid (fillU_set (nats s) k (by rw [HL.out]; exact hlt))
      have HSet := Lib.hid (hO.set (j := k) (v := s[k].toNat) (by rw [fillU_len _ _ (by rw [HL.out]; omega), HL.out]; exact hlt))
      have HF := Lib.hid hO.frozen
      have hc : ∃ v, wr.cell? ⟨w.heap.size, k, none⟩ = some v := ⟨_, hO.cell (j := k) (by rw [fillU_len _ _ (by rw [HL.out]; omega), HL.out]; exact hlt)⟩
      have hfr := hO.frozen k
      obtain ⟨v0, hv0⟩ := hc
      have HO := Lib.hid hO
      clear hO
      go_wp2
      go_roundw
      case rel =>
        refine ⟨k + 1, by rw [HL.out]; omega, by rw [show ((k + 1 : Nat) : Int) = (k : Int) + 1 by omega], ?_, hB.setCell (by simp) _⟩
        have q := HSet.out
        rw [← HG.out, HS.out] at q
        rw [← HG.out]
        exact q
      case measure => simp [intOf]; omega
    · obtain rfl : k = s.size := by omega
      have HO := Lib.hid hO
      clear hO
      go_wp2
      go_ret
      refine ⟨some ⟨w.heap.size, 0, none⟩, s.size, by rw [HL.out]; rfl, by rw [HL.out]; exact Nat.le_refl _, by omega, ?_, Plus.of_below hB⟩
      have q := HO.out
      rw [← HL.out, fillU_all] at q
      exact q.rd
end Go.Proofs.YtmlfcmmgoiigkaaGreatDoor
