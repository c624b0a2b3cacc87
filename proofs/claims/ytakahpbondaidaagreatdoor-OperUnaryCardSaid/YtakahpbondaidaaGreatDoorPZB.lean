/- Contracts: Ascii, Plain. -/
import Derived.WalkKit
import Derived.WalkSpells
import Derived.WalkLawsBesides
import Derived.Handy
import Derived.Deep.RegionHeld3
import Derived.Deep.DeepCutAuto
import Derived.Deep.QuietTactic
import Derived.BigQuiet
import Derived.Lib.Hide
import Derived.KernelRfl
import Derived.WalkMore
import Derived.Deep.LoopGhost
import Derived.Laws.BitsAllLaws
import Derived.Laws.DeepBits32
import Derived.Laws.IdiomStrings
import Derived.Test.YtakahpbondaidaaGreatDoorProg
import Derived.Test.YtakahpbondaidaaGreatDoorPZA
namespace Go.Proofs.YtakahpbondaidaaGreatDoor
open Go.RowKit


theorem infoU16 : (Tryz.prog.info? 87).map (fun i => (i.zero, i.size, i.bytes)) = some (some (.int .u16 0), 1, 2) := by kernel_rfl
theorem infoU8 : (Tryz.prog.info? 5).map (fun i => (i.zero, i.size, i.bytes)) = some (some (.int .u8 0), 1, 1) := by kernel_rfl
theorem zeros_cells (k : IntKind) (n : Nat) : madeCells #[.int k 0] n = Array.replicate n (.int k 0) := by
  apply Array.ext'
  rw [toList_madeCells_one]
  simp
/-- The units that were laid, then zeros. -/
def fillU (s : List Nat) (k : Nat) : List Nat := s.take k ++ List.replicate (s.length - k) 0
theorem fillU_len (s : List Nat) (k : Nat) (h : k ≤ s.length) : (fillU s k).length = s.length := by unfold fillU; simp; omega
theorem fillU_zero (s : List Nat) : fillU s 0 = List.replicate s.length 0 := by unfold fillU; simp
theorem fillU_all (s : List Nat) : fillU s s.length = s := by unfold fillU; simp
theorem fillU_set (s : List Nat) (k : Nat) (h : k < s.length) : (fillU s k).set k (s.getD k 0) = fillU s (k + 1) := by
  apply List.ext_getElem?
  intro i
  unfold fillU
  rw [List.getElem?_set, List.length_append, List.length_take, List.length_replicate]
  by_cases hi : k = i
  · subst hi
    rw [if_pos rfl, if_pos (by omega), List.getElem?_append_left (by rw [List.length_take]; omega), List.getElem?_take, if_pos (by omega), List.getElem?_eq_getElem h, List.getD_eq_getElem?_getD, List.getElem?_eq_getElem h]
    rfl
  · rw [if_neg hi]
    by_cases hk : i < k
    · rw [List.getElem?_append_left (by rw [List.length_take]; omega), List.getElem?_append_left (by rw [List.length_take]; omega), List.getElem?_take, List.getElem?_take, if_pos hk, if_pos (by omega)]
    · rw [List.getElem?_append_right (by rw [List.length_take]; omega), List.getElem?_append_right (by rw [List.length_take]; omega), List.length_take, List.length_take, List.getElem?_replicate, List.getElem?_replicate]
      have e1 : min k s.length = k := by omega
      have e2 : min (k + 1) s.length = k + 1 := by omega
      rw [e1, e2]
      by_cases h2 : i < s.length
      · rw [if_pos (by omega), if_pos (by omega)]
      · rw [if_neg (by omega), if_neg (by omega)]
/-- A string's bytes as numbers. -/
def nats (s : ByteArray) : List Nat := s.data.toList.map UInt8.toNat
theorem nats_len (s : ByteArray) : (nats s).length = s.size := by unfold nats; simp
theorem nats_get (s : ByteArray) (k : Nat) (h : k < s.size) : (nats s).getD k 0 = s[k].toNat := by
  unfold nats
  rw [List.getD_eq_getElem?_getD, List.getElem?_map]
  have : s.data.toList[k]? = some s[k] := by
    rw [List.getElem?_eq_getElem (by simpa using h)]
    rfl
  rw [this]
  rfl
theorem nats_B (s : ByteArray) : isB (nats s) := fun x hx => by
  unfold nats at hx
  obtain ⟨c, _, rfl⟩ := List.mem_map.1 hx
  exact c.toNat_lt
/-- A slice of new memory reads as xs. -/
def NewR (k : IntKind) (xs : List Nat) (w : World) (e : Ending) (w' : World) : Prop :=
  ∃ (A : Option Addr) (c : Nat), e = .returned (.slice A xs.length c) ∧ xs.length ≤ c ∧ c ≤ 9223372036854775807 ∧ Rd k w' A xs ∧ Plus w w'
def AscRel (s : List Nat) (w : World) (g : Nat) (s10 : Value) (wr : World) : Prop := ∃ k : Nat, k ≤ s.length ∧ s10 = .int .i64 k ∧ Own .u16 wr g (fillU s k) ∧ Below w.heap.size w wr

set_option maxRecDepth 100000 in
set_option maxHeartbeats 1000000 in
theorem ascii_c (s : ByteArray) (hs : s.size ≤ 140737488355328) (w : World) : Calls Tryz.prog 57 #[.string s] w (NewR .u16 (nats s) w) := by
  have hmk := run_make_row' (P := Tryz.prog) 27 87 (.int .u16 0) 2 Tryz.underlying27 infoU16 rfl .i64 .i64 s.size (by omega) (by omega)
  rw [zeros_cells] at hmk
  go_enter Tryz.func57, Tryz.ntmps57
  go_wp2
  clear hmk
  go_loopw [10] (AscRel (nats s) w w.heap.size) (fun s10 _ => ((s.size : Int) - intOf s10).toNat)
  case atStart => exact ⟨0, by omega, rfl, by rw [fillU_zero, nats_len]; exact Own.zeros .u16 w _ 87 _ rfl, (Below.refl _ _).alloc (Nat.le_refl _) _⟩
  case round =>
    obtain ⟨k, hk, rfl, hO, hB⟩ := hrel
    have HL := Lib.hid (nats_len s)
    rw [HL.out] at hk
    by_cases hlt : k < s.size
    · have HG := Lib.hid (nats_get s k hlt)
      have hb := s[k].toNat_lt
      have HS := Lib.hid (fillU_set (nats s) k (by rw [HL.out]; exact hlt))
      have HSet := Lib.hid (hO.set (j := k) (v := s[k].toNat) (by rw [fillU_len _ _ (by rw [HL.out]; omega), HL.out]; exact hlt))
      have HF := Lib.hid hO.frozen
      have hc : ∃ v, wr.cell? ⟨w.heap.size, k, none⟩ = some v := ⟨_, hO.cell (j := k) (by rw [fillU_len _ _ (by rw [HL.out]; omega), HL.out]; exact hlt)⟩
      have hfr := hO.frozen k
      obtain ⟨v0, hv0⟩ := hc
      have HO := Lib.hid hO
      clear hO
      go_wp2
      go_roundw
      case rel =>
        refine ⟨k + 1, by rw [HL.out]; omega, by rw [show ((k + 1 : Nat) : Int) = (k : Int) + 1 by omega], ?_, hB.setCell (by simp) _⟩
        have q := HSet.out
        rw [← HG.out, HS.out] at q
        rw [← HG.out]
        exact q
      case measure => simp [intOf]; omega
    · obtain rfl : k = s.size := by omega
      have HO := Lib.hid hO
      clear hO
      go_wp2
      go_ret
      refine ⟨some ⟨w.heap.size, 0, none⟩, s.size, by rw [HL.out]; rfl, by rw [HL.out]; exact Nat.le_refl _, by omega, ?_, Plus.of_below hB⟩
      have q := HO.out
      rw [← HL.out, fillU_all] at q
      exact q.rd
end Go.Proofs.YtakahpbondaidaaGreatDoor
namespace Go.Proofs.YtakahpbondaidaaGreatDoor
open Go.RowKit


/-- Numbers as bytes. -/
def byts (xs : List Nat) : ByteArray := ⟨(xs.map Nat.toUInt8).toArray⟩
theorem byts_size (xs : List Nat) : (byts xs).size = xs.length := by show (xs.map Nat.toUInt8).toArray.size = _; simp
/-- Are all below 128? -/
def low (xs : List Nat) : Bool := xs.all fun x => decide (x < 128)
/-- No number of the first k is 128 or more. -/
def PlRel (xs : List Nat) (w : World) (g : Nat) (s12 : Value) (wr : World) : Prop := ∃ k : Nat, k ≤ xs.length ∧ s12 = .int .i64 k ∧ low (xs.take k) = true ∧ Own .u8 wr g (fillU xs k) ∧ Below w.heap.size w wr
theorem low_take {xs : List Nat} {k : Nat} (h : low (xs.take k) = true) (hk : k < xs.length) (hv : xs.getD k 0 < 128) : low (xs.take (k + 1)) = true := by
  unfold low at h ⊢
  rw [List.getD_eq_getElem?_getD, List.getElem?_eq_getElem hk] at hv
  rw [List.take_succ_eq_append_getElem hk, List.all_append, h]
  simpa using hv
theorem low_not {xs : List Nat} {k : Nat} (hk : k < xs.length) (hv : ¬ xs.getD k 0 < 128) : low xs = false := by
  unfold low
  rw [List.all_eq_false]
  exact ⟨_, getD_mem hk, by simpa using hv⟩
theorem toNat_u8 {x : Nat} (h : x < 256) : x.toUInt8.toNat = x := by
  show x % 2 ^ 8 = x
  exact Nat.mod_eq_of_lt h
theorem conv_bytes {w : World} {xs : List Nat} (g o c : Nat) (h : At .u8 w g o xs) (hb : isB xs) : (convert 125 9 (.slice (some ⟨g, o, none⟩) xs.length c)).run Tryz.prog w = .ok (.string (byts xs)) w := by
  have q := run_convert_bytes_back (P := Tryz.prog) w 125 9 5 ⟨g, o, none⟩ c (xs.map Nat.toUInt8) Tryz.underlying125 Tryz.underlying5 Tryz.underlying9 (fun j hj => by
    rw [List.length_map] at hj
    have h1 := h j hj
    rw [add_addr, h1, List.getElem_map, toNat_u8 (hb _ (List.getElem_mem hj)), List.getD_eq_getElem?_getD, List.getElem?_eq_getElem hj]
    rfl)
  rw [List.length_map] at q
  exact q
theorem low_B {xs : List Nat} (h : low xs = true) : isB xs := fun x hx => by
  unfold low at h
  have := List.all_eq_true.1 h x hx
  simp at this
  omega
theorem conv_back {w : World} {xs : List Nat} (g c : Nat) (h : Own .u8 w g xs) (hl : low xs = true) : (convert 125 9 (.slice (some ⟨g, 0, none⟩) xs.length c)).run Tryz.prog w = .ok (.string (byts xs)) w :=
  conv_bytes g 0 c (fun j hj => by rw [Nat.zero_add]; exact h.cell hj) (low_B hl)
/-- What Plain returns. -/
def plS (xs : List Nat) : ByteArray := if low xs then byts xs else ByteArray.empty

set_option maxRecDepth 100000 in
set_option maxHeartbeats 1000000 in
theorem plain_c (A : Option Addr) (xs : List Nat) (n c : Nat) (w : World) (h : Ar .u16 65536 w A xs n c) (hs : n ≤ 140737488355328) : Calls Tryz.prog 105 #[.slice A n c] w fun e w' => e = .returned (.tuple #[.string (plS xs), .bool (low xs)]) ∧ Plus w w' := by
  obtain ⟨hrd, hlen, hcap, hmax, hbd⟩ := h
  subst hlen
  have hmk := run_make_row' (P := Tryz.prog) 125 5 (.int .u8 0) 1 Tryz.underlying125 infoU8 rfl .i64 .i64 xs.length (by omega) (by omega)
  rw [zeros_cells] at hmk
  go_enter Tryz.func105, Tryz.ntmps105
  go_wp2
  clear hmk
  go_loopw [12] (PlRel xs w w.heap.size) (fun s12 _ => ((xs.length : Int) - intOf s12).toNat)
  case atStart => exact ⟨0, by omega, rfl, rfl, by rw [fillU_zero]; exact Own.zeros .u8 w _ 5 _ rfl, (Below.refl _ _).alloc (Nat.le_refl _) _⟩
  case round =>
    obtain ⟨k, hk, rfl, hlo, hO, hB⟩ := hrel
    by_cases hlt : k < xs.length
    · obtain ⟨g, o, rfl, hg, hat⟩ := hrd.at_ hlt
      have hcell := hat.below hB hg k hlt
      have hadd := add_addr g o k
      obtain ⟨v, hv⟩ : ∃ v, xs.getD k 0 = v := ⟨_, rfl⟩
      rw [hv] at hcell
      have hO2 := hO
      have HSet := Lib.hid (hO.set (j := k) (v := v) (by rw [fillU_len _ _ hk]; exact hlt))
      have hfr := hO.frozen k
      have hc : ∃ v, wr.cell? ⟨w.heap.size, k, none⟩ = some v := ⟨_, hO.cell (j := k) (by rw [fillU_len _ _ hk]; exact hlt)⟩
      obtain ⟨v0, hv0⟩ := hc
      have HS := Lib.hid (fillU_set xs k hlt)
      have HV := Lib.hid hv
      have HO := Lib.hid hO
      have HAT := Lib.hid hat
      have HA := Lib.hid hadd
      have HL := Lib.hid hlo
      have hvb : v < 65536 := by rw [← hv]; exact hbd _ (getD_mem hlt)
      clear hO hO2 hv hat hlo
      by_cases hvv : v < 128
      · have ev : IntKind.u8.wrap (v : Int) = v := by rw [IntKind.wrap_u8']; omega
        have d1 : decide ((v : Int) ≥ 128) = false := by simp; omega
        have d2 : decide ((128 : Int) ≤ v) = false := by simp; omega
        go_wp2
        go_roundw
        case rel =>
          refine ⟨k + 1, hlt, by rw [show ((k + 1 : Nat) : Int) = (k : Int) + 1 by omega], low_take HL.out hlt (by rw [HV.out]; exact hvv), ?_, hB.setCell (by simp) _⟩
          have q := HSet.out
          rw [← HV.out, HS.out] at q
          rw [← HV.out]
          exact q
        case measure => simp [intOf]; omega
      · have d1 : decide ((v : Int) ≥ 128) = true := by simp; omega
        have d2 : decide ((128 : Int) ≤ v) = true := by simp; omega
        have HN := Lib.hid (low_not hlt (by rw [HV.out]; exact hvv))
        go_wp2
        go_ret2
        refine ⟨?_, Plus.of_below hB⟩
        unfold plS
        rw [HN.out]
        rfl
    · obtain rfl : k = xs.length := by omega
      have hall : low xs = true := by rw [List.take_length] at hlo; exact hlo
      rw [fillU_all] at hO
      have hcv := conv_back w.heap.size xs.length hO hall
      have HO := Lib.hid hO
      have HL := Lib.hid hall
      clear hO hlo hall
      go_wp2
      go_ret2
      refine ⟨?_, Plus.of_below hB⟩
      unfold plS
      rw [HL.out]
      rfl
end Go.Proofs.YtakahpbondaidaaGreatDoor

namespace Go.Proofs.YtakahpbondaidaaGreatDoor
open Go.RowKit


theorem take_ext {xs ys : List Nat} {k : Nat} (h : xs.take k = ys.take k) (h1 : k < xs.length) (h2 : k < ys.length) (hv : xs.getD k 0 = ys.getD k 0) : xs.take (k + 1) = ys.take (k + 1) := by
  rw [List.getD_eq_getElem?_getD, List.getD_eq_getElem?_getD, List.getElem?_eq_getElem h1, List.getElem?_eq_getElem h2] at hv
  have e : xs[k] = ys[k] := by simpa using hv
  rw [List.take_succ_eq_append_getElem h1, List.take_succ_eq_append_getElem h2, h, e]
def EqRel (xs ys : List Nat) (s13 : Value) : Prop := ∃ k : Nat, k ≤ xs.length ∧ s13 = .int .i64 k ∧ xs.take k = ys.take k
set_option maxRecDepth 100000 in
set_option maxHeartbeats 1000000 in
theorem equal_c (A C : Option Addr) (xs ys : List Nat) (n c m d : Nat) (w : World) (ha : Ar .u16 65536 w A xs n c) (hb : Ar .u16 65536 w C ys m d) :
    Calls Tryz.prog 209 #[.slice A n c, .slice C m d] w fun e w' => e = .returned (.bool (decide (xs = ys))) ∧ Plus w w' := by
  obtain ⟨hrd, hlen, hcap, hmax, hbd⟩ := ha
  obtain ⟨krd, klen, kcap, kmax, kbd⟩ := hb
  subst hlen klen
  by_cases hl : xs.length = ys.length
  · have b1 : ((xs.length : Int) != (ys.length : Int)) = false := by simp [hl]
    have HL := Lib.hid hl
    clear hl
    go_enter Tryz.func209, Tryz.ntmps209
    go_wp2
    go_loopw [13] (fun s13 wr => EqRel xs ys s13 ∧ Plus w wr) (fun s13 _ => ((xs.length : Int) - intOf s13).toNat)
    case atStart => exact ⟨⟨0, by omega, rfl, rfl⟩, Plus.refl _⟩
    case round =>
      obtain ⟨⟨k, hk, rfl, he⟩, hp⟩ := hrel
      by_cases hlt : k < xs.length
      · obtain ⟨g, o, rfl, hg, hat⟩ := hrd.at_ hlt
        have hlt2 : k < ys.length := by rw [← HL.out]; exact hlt
        obtain ⟨g2, o2, rfl, hg2, hat2⟩ := krd.at_ hlt2
        have hcell := hat.plus hg hp k hlt
        have hcell2 := hat2.plus hg2 hp k hlt2
        have hadd := add_addr g o k
        have hadd2 := add_addr g2 o2 k
        have HE := Lib.hid he
        have HP := Lib.hid hp
        clear he hat hat2 hp
        obtain ⟨v, hv⟩ : ∃ v, xs.getD k 0 = v := ⟨_, rfl⟩
        obtain ⟨u, hu⟩ : ∃ u, ys.getD k 0 = u := ⟨_, rfl⟩
        rw [hv] at hcell
        rw [hu] at hcell2
        have HV := Lib.hid hv
        have HU := Lib.hid hu
        clear hv hu
        by_cases hvu : v = u
        · subst hvu
          have HT := Lib.hid (take_ext HE.out hlt hlt2 (by rw [HV.out, HU.out]))
          go_wp2_with fail
          go_quiet (fail)
          go_wp2_with fail
          go_roundw
          case rel => exact ⟨⟨k + 1, hlt, by rw [show ((k + 1 : Nat) : Int) = (k : Int) + 1 by omega], HT.out⟩, HP.out.drewN _⟩
          case measure => simp [intOf]; omega
        · have b2 : ((v : Int) != (u : Int)) = true := by simp; omega
          have HN : Hid (decide (xs = ys) = false) := Lib.hid (by simp; intro e; subst e; exact hvu (HV.out.symm.trans HU.out))
          go_wp2_with fail
          go_quiet (fail)
          go_wp2_with fail
          go_ret
          exact ⟨by rw [HN.out]; rfl, HP.out.drewN _⟩
      · obtain rfl : k = xs.length := by omega
        have HR : Hid (decide (xs = ys) = true) := Lib.hid (by
          rw [List.take_length, HL.out, List.take_length] at he
          simpa using he)
        have HP := Lib.hid hp
        clear he hp
        go_wp2_with fail
        go_ret
        exact ⟨by rw [HR.out]; rfl, HP.out⟩
  · have b1 : ((xs.length : Int) != (ys.length : Int)) = true := by simp; omega
    have HN : Hid (decide (xs = ys) = false) := Lib.hid (by simp; intro e; subst e; exact hl rfl)
    go_enter Tryz.func209, Tryz.ntmps209
    go_wp2
    go_ret
    exact ⟨by rw [HN.out]; rfl, Plus.refl _⟩
theorem same_c (A C : Option Addr) (xs ys : List Nat) (n c m d : Nat) (w : World) (ha : Ar .u16 65536 w A xs n c) (hb : Ar .u16 65536 w C ys m d) :
    Calls Tryz.prog 134 #[.slice A n c, .slice C m d] w fun e w' => e = .returned (.bool (decide (xs = ys))) ∧ Plus w w' := by
  have HA := Lib.hid ha
  have HB := Lib.hid hb
  clear ha hb
  go_enter Tryz.func134, Tryz.ntmps134
  go_wp2_with (go_at_call 209; refine (equal_c _ _ _ _ _ _ _ _ _ HA.out HB.out).mono ?_; rintro e w1 ⟨rfl, ⟨x, rfl⟩⟩)
  go_ret
  exact ⟨rfl, Plus.is x⟩
end Go.Proofs.YtakahpbondaidaaGreatDoor
