/- The bytes of a word. -/
import Derived.WalkKit
import Derived.WalkSpells
import Derived.WalkLawsBesides
import Derived.Handy
import Derived.Deep.RegionHeld3
import Derived.Deep.DeepCutAuto
import Derived.Deep.QuietTactic
import Derived.BigQuiet
import Derived.Lib.Hide
import Derived.KernelRfl
import Derived.WalkMore
import Derived.Deep.LoopGhost
import Derived.Test.YtjojkogmbgppcaaC4
namespace Go.Proofs.Ytjojkogmbgppcaa
open Go.RowKit


theorem infoU8 : (Try.prog.info? 5).map (fun i => (i.zero, i.size, i.bytes)) = some (some (.int .u8 0), 1, 1) := by kernel_rfl
theorem zeros_cells (k : IntKind) (n : Nat) : madeCells #[.int k 0] n = Array.replicate n (.int k 0) := by
  apply Array.ext'
  rw [toList_madeCells_one]
  simp
/-- The units that were laid, then zeros. -/
def fillU (s : List Nat) (k : Nat) : List Nat := s.take k ++ List.replicate (s.length - k) 0
theorem fillU_len (s : List Nat) (k : Nat) (h : k ≤ s.length) : (fillU s k).length = s.length := by unfold fillU; simp; omega
theorem fillU_zero (s : List Nat) : fillU s 0 = List.replicate s.length 0 := by unfold fillU; simp
theorem fillU_all (s : List Nat) : fillU s s.length = s := by unfold fillU; simp
theorem fillU_set (s : List Nat) (k : Nat) (h : k < s.length) : (fillU s k).set k (s.getD k 0) = fillU s (k + 1) := by
  apply List.ext_getElem?
  intro i
  unfold fillU
  rw [List.getElem?_set, List.length_append, List.length_take, List.length_replicate]
  by_cases hi : k = i
  · subst hi
    rw [if_pos rfl, if_pos (by omega), List.getElem?_append_left (by rw [List.length_take]; omega), List.getElem?_take, if_pos (by omega), List.getElem?_eq_getElem h, List.getD_eq_getElem?_getD, List.getElem?_eq_getElem h]
    rfl
  · rw [if_neg hi]
    by_cases hk : i < k
    · rw [List.getElem?_append_left (by rw [List.length_take]; omega), List.getElem?_append_left (by rw [List.length_take]; omega), List.getElem?_take, List.getElem?_take, if_pos hk, if_pos (by omega)]
    · rw [List.getElem?_append_right (by rw [List.length_take]; omega), List.getElem?_append_right (by rw [List.length_take]; omega), List.length_take, List.length_take, List.getElem?_replicate, List.getElem?_replicate]
      have e1 : min k s.length = k := by omega
      have e2 : min (k + 1) s.length = k + 1 := by omega
      rw [e1, e2]
      by_cases h2 : i < s.length
      · rw [if_pos (by omega), if_pos (by omega)]
      · rw [if_neg (by omega), if_neg (by omega)]
/-- A slice of new memory reads as xs. -/
def NewR (k : IntKind) (xs : List Nat) (w : World) (e : Ending) (w' : World) : Prop :=
  ∃ (A : Option Addr) (c : Nat), e = .returned (.slice A xs.length c) ∧ xs.length ≤ c ∧ c ≤ 9223372036854775807 ∧ Rd k w' A xs ∧ Plus w w'

/-- The bytes of a word, the least first. -/
def bs (n x : Nat) : List Nat := (List.range n).map fun i => x / 2 ^ (8 * i) % 256
theorem bs_len (n x : Nat) : (bs n x).length = n := by unfold bs; simp
theorem bs_get {n x i : Nat} (h : i < n) : (bs n x).getD i 0 = x / 2 ^ (8 * i) % 256 := by
  unfold bs
  rw [List.getD_eq_getElem?_getD, List.getElem?_map, List.getElem?_range h]
  rfl
def ByRel (s : List Nat) (w : World) (g : Nat) (s12 : Value) (wr : World) : Prop := ∃ k : Nat, k ≤ s.length ∧ s12 = .int .i64 k ∧ Own .u8 wr g (fillU s k) ∧ Below w.heap.size w wr
/-- A world that has grown, as 'plus'. -/
theorem shr8 {x m : Nat} : ((x : Int) / 2 ^ m) % 256 = ((x / 2 ^ m % 256 : Nat) : Int) := by
  rw [Int.natCast_emod, Int.natCast_ediv, Int.natCast_pow]
  rfl

set_option maxRecDepth 100000 in
set_option maxHeartbeats 2000000 in
theorem bytes_c (k : Int) (x : Nat) (w : World) (hx : x < 18446744073709551616) : Calls Try.prog 20 #[.int .i64 k, .int .u64 (x : Int)] w (NewR .u8 (bs (szK k) x) w) := by
  obtain ⟨n, hn⟩ : ∃ n, szK k = n := ⟨_, rfl⟩
  have h8 := szK_le k
  rw [hn] at h8
  have hmk := run_make_row' (P := Try.prog) 23 5 (.int .u8 0) 1 Try.underlying23 infoU8 rfl .i64 .i64 n (by omega) (by omega)
  rw [zeros_cells] at hmk
  have hsz := fun w' => size_s (k := k) (s := (n : Int)) w' (by rw [hn])
  rw [hn]
  have HX := Lib.hid hx
  have H8 := Lib.hid h8
  clear hn hx h8
  go_enter Try.func20, Try.ntmps20
  go_wp2_with fail
  with_reducible refine (hsz _).mono ?_
  rintro e w1 ⟨rfl, ⟨x1, rfl⟩⟩
  go_wp2_with fail
  clear hmk
  go_loopw [6, 12] (fun s6 s12 wr => ByRel (bs n x) w (w.heap.size + x1.blocks.length) s12 wr) (fun _ s12 _ => ((n : Int) - intOf s12).toNat)
  case atStart => exact ⟨0, by omega, rfl, by rw [fillU_zero, bs_len, ← size_plus]; exact Own.zeros .u8 _ _ 5 _ rfl, (Plus.alloc (Plus.is x1) _).below⟩
  case round =>
    obtain ⟨j, hj, rfl, hO, hB⟩ := hrel
    have HL := Lib.hid (bs_len n x)
    rw [HL.out] at hj
    by_cases hlt : j < n
    · have HS := Lib.hid (fillU_set (bs n x) j (by rw [HL.out]; exact hlt))
      have HSet := Lib.hid (hO.set (j := j) (v := x / 2 ^ (8 * j) % 256) (by rw [fillU_len _ _ (by rw [HL.out]; omega), HL.out]; exact hlt))
      obtain ⟨v0, hv0⟩ : ∃ v, wr.cell? ⟨w.heap.size + x1.blocks.length, j, none⟩ = some v := ⟨_, hO.cell (j := j) (by rw [fillU_len _ _ (by rw [HL.out]; omega), HL.out]; exact hlt)⟩
      have hfr := hO.frozen j
      have HO := Lib.hid hO
      clear hO
      have hj8 : (j : Int) ≤ 7 := by have := H8.out; omega
      go_wp2_with fail
      go_roundw
      case rel =>
        refine ⟨j + 1, by rw [HL.out]; omega, by rw [show ((j + 1 : Nat) : Int) = (j : Int) + 1 by omega], ?_, hB.setCell (by simp) _⟩
        have q := HSet.out
        have g := bs_get (n := n) (x := x) hlt
        rw [← g, HS.out] at q
        rw [shr8, ← g]
        exact q
      case measure => simp [intOf]; omega
    · obtain rfl : j = n := by omega
      have HO := Lib.hid hO
      clear hO
      go_wp2_with fail
      go_ret
      refine ⟨some ⟨w.heap.size + x1.blocks.length, 0, none⟩, j, by rw [HL.out]; rfl, by rw [HL.out]; exact Nat.le_refl _, by have := H8.out; omega, ?_, Plus.of_below hB⟩
      have q := HO.out
      have e := fillU_all (bs j x)
      rw [bs_len] at e
      rw [e] at q
      exact q.rd
end Go.Proofs.Ytjojkogmbgppcaa
