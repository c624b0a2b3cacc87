/- Contracts: Plain. Contracts: Same; lists held against one another. -/
import Derived.Laws.IdiomStrings
import Derived.Test.YtmlfcmmgoiigkaaGreatDoorC2
namespace Go.Proofs.YtmlfcmmgoiigkaaGreatDoor
open Go.RowKit


/-- Numbers as bytes. -/
def byts (xs : List Nat) : ByteArray := ⟨(xs.map Nat.toUInt8).toArray⟩
theorem byts_size (xs : List Nat) : (byts xs).size = xs.length := by show (xs.map Nat.toUInt8).toArray.size = _; simp
/-- Are all below 128? -/
def low (xs : List Nat) : Bool := xs.all fun x => decide (x < 128)
/-- No number of the first k is 128 or more. -/
def PlRel (xs : List Nat) (w : World) (g : Nat) (s12 : Value) (wr : World) : Prop := ∃ k : Nat, k ≤ xs.length ∧ s12 = .int .i64 k ∧ low (xs.take k) = true ∧ Own .u8 wr g (fillU xs k) ∧ Below w.heap.size w wr
theorem low_take {xs : List Nat} {k : Nat} (h : low (xs.take k) = true) (hk : k < xs.length) (hv : xs.getD k 0 < 128) : low (xs.take (k + 1)) = true := by
  unfold low at h ⊢
  rw [List.getD_eq_getElem?_getD, List.getElem?_eq_getElem hk] at hv
  rw [List.take_succ_eq_append_getElem hk, List.all_append, h]
  simpa using hv
theorem low_not {xs : List Nat} {k : Nat} (hk : k < xs.length) (hv : ¬ xs.getD k 0 < 128) : low xs = false := by
  unfold low
  rw [List.all_eq_false]
  exact ⟨_, getD_mem hk, by simpa using hv⟩
theorem toNat_u8 {x : Nat} (h : x < 256) : x.toUInt8.toNat = x := by
  show x % 2 ^ 8 = x
  exact Nat.mod_eq_of_lt h
theorem conv_bytes {w : World} {xs : List Nat} (g o c : Nat) (h : At .u8 w g o xs) (hb : isB xs) : (convert 97 9 (.slice (some ⟨g, o, none⟩) xs.length c)).run Tryz.prog w = .ok (.string (byts xs)) w := by
  have q := run_convert_bytes_back (P := Tryz.prog) w 97 9 5 ⟨g, o, none⟩ c (xs.map Nat.toUInt8) Tryz.underlying97 Tryz.underlying5 Tryz.underlying9 (fun j hj => by
    rw [List.length_map] at hj
    have h1 := h j hj
    rw [add_addr, h1, List.getElem_map, toNat_u8 (hb _ (List.getElem_mem hj)), List.getD_eq_getElem?_getD, List.getElem?_eq_getElem hj]
    rfl)
  rw [List.length_map] at q
  exact q
theorem low_B {xs : List Nat} (h : low xs = true) : isB xs := fun x hx => by
  unfold low at h
  have := List.all_eq_true.1 h x hx
  simp at this
  omega
theorem conv_back {w : World} {xs : List Nat} (g c : Nat) (h : Own .u8 w g xs) (hl : low xs = true) : (convert 97 9 (.slice (some ⟨g, 0, none⟩) xs.length c)).run Tryz.prog w = .ok (.string (byts xs)) w :=
  conv_bytes g 0 c (fun j hj => by rw [Nat.zero_add]; exact h.cell hj) (low_B hl)
/-- What Plain returns. -/
def plS (xs : List Nat) : ByteArray := if low xs then byts xs else ByteArray.empty

set_option maxRecDepth 100000 in
set_option maxHeartbeats 1000000 in
theorem plain_c (A : Option Addr) (xs : List Nat) (n c : Nat) (w : World) (h : Ar .u16 65536 w A xs n c) (hs : n ≤ 140737488355328) : Calls Tryz.prog 94 #[.slice A n c] w fun e w' => e = .returned (.tuple #[.string (plS xs), .bool (low xs)]) ∧ Plus w w' := by
  obtain ⟨hrd, hlen, hcap, hmax, hbd⟩ := h
  subst hlen
  have hmk := run_make_row' (P := Tryz.prog) 97 5 (.int .u8 0) 1 Tryz.underlying97 infoU8 rfl .i64 .i64 xs.length (by omega) (by omega)
  rw [zeros_cells] at hmk
  go_enter Tryz.func94, Tryz.ntmps94
  go_wp2
  clear hmk
  go_loopw [12] (PlRel xs w w.heap.size) (fun s12 _ => ((xs.length : Int) - intOf s12).toNat)
  case atStart => exact ⟨0, by omega, rfl, rfl, by rw [fillU_zero]; exact Own.zeros .u8 w _ 5 _ rfl, (Below.refl _ _).alloc (Nat.le_refl _) _⟩
  case round =>
    obtain ⟨k, hk, rfl, hlo, hO, hB⟩ := hrel
    by_cases hlt : k < xs.length
    · obtain ⟨g, o, rfl, hg, hat⟩ := hrd.at_ hlt
      have hcell := hat.below hB hg k hlt
      have hadd := add_addr g o k
      obtain ⟨v, hv⟩ : ∃ v, xs.getD k 0 = v := ⟨_, rfl⟩
      rw [hv] at hcell
      have hO2 := hO
      have HSet := Lib.hid (hO.set (j := k) (v := v) (by rw [fillU_len _ _ hk]; exact hlt))
      have hfr := hO.frozen k
      have hc : ∃ v, wr.cell? ⟨w.heap.size, k, none⟩ = some v := ⟨_, hO.cell (j := k) (by rw [fillU_len _ _ hk]; exact hlt)⟩
      obtain ⟨v0, hv0⟩ := hc
      have HS := Lib.hid (fillU_set xs k hlt)
      have HV := Lib.hid hv
      have HO := Lib.hid hO
      have HAT := Lib.hid hat
      have HA := Lib.hid hadd
      have HL := Lib.hid hlo
      have hvb : v < 65536 := by rw [← hv]; exact hbd _ (getD_mem hlt)
      clear hO hO2 hv hat hlo
      by_cases hvv : v < 128
      · have ev : IntKind.u8.wrap (v : Int) = v := by rw [IntKind.wrap_u8']; omega
        have d1 : decide ((v : Int) ≥ 128) = false := by simp; omega
        have d2 : decide ((128 : Int) ≤ v) = false := by simp; omega
        go_wp2
        go_roundw
        case rel =>
          refine ⟨k + 1, hlt, by rw [show ((k + 1 : Nat) : Int) = (k : Int) + 1 by omega], low_take HL.out hlt (by rw [HV.out]; exact hvv), ?_, hB.setCell (by simp) _⟩
          have q := HSet.out
          rw [← HV.out, HS.out] at q
          rw [← HV.out]
          exact q
        case measure => simp [intOf]; omega
      · have d1 : decide ((v : Int) ≥ 128) = true := by simp; omega
        have d2 : decide ((128 : Int) ≤ v) = true := by simp; omega
        have HN := Lib.hid (low_not hlt (by rw [HV.out]; exact hvv))
        go_wp2
        go_ret2
        refine ⟨?_, Plus.of_below hB⟩
        unfold plS
        rw [HN.out]
        rfl
    · obtain rfl : k = xs.length := by omega
      have hall : low xs = true := by rw [List.take_length] at hlo; exact hlo
      rw [fillU_all] at hO
      have hcv := conv_back w.heap.size xs.length hO hall
      have HO := Lib.hid hO
      have HL := Lib.hid hall
      clear hO hlo hall
      go_wp2
      go_ret2
      refine ⟨?_, Plus.of_below hB⟩
      unfold plS
      rw [HL.out]
      rfl
end Go.Proofs.YtmlfcmmgoiigkaaGreatDoor

namespace Go.Proofs.YtmlfcmmgoiigkaaGreatDoor
open Go.RowKit


theorem take_ext {xs ys : List Nat} {k : Nat} (h : xs.take k = ys.take k) (h1 : k < xs.length) (h2 : k < ys.length) (hv : xs.getD k 0 = ys.getD k 0) : xs.take (k + 1) = ys.take (k + 1) := by
  rw [List.getD_eq_getElem?_getD, List.getD_eq_getElem?_getD, List.getElem?_eq_getElem h1, List.getElem?_eq_getElem h2] at hv
  have e : xs[k] = ys[k] := by simpa using hv
  rw [List.take_succ_eq_append_getElem h1, List.take_succ_eq_append_getElem h2, h, e]
def EqRel (xs ys : List Nat) (s13 : Value) : Prop := ∃ k : Nat, k ≤ xs.length ∧ s13 = .int .i64 k ∧ xs.take k = ys.take k
set_option maxRecDepth 100000 in
set_option maxHeartbeats 1000000 in
theorem equal_c (A C : Option Addr) (xs ys : List Nat) (n c m d : Nat) (w : World) (ha : Ar .u16 65536 w A xs n c) (hb : Ar .u16 65536 w C ys m d) :
    Calls Tryz.prog 124 #[.slice A n c, .slice C m d] w fun e w' => e = .returned (.bool (decide (xs = ys))) ∧ Plus w w' := by
  obtain ⟨hrd, hlen, hcap, hmax, hbd⟩ := ha
  obtain ⟨krd, klen, kcap, kmax, kbd⟩ := hb
  subst hlen klen
  by_cases hl : xs.length = ys.length
  · have b1 : ((xs.length : Int) != (ys.length : Int)) = false := by simp [hl]
    have HL := Lib.hid hl
    clear hl
    go_enter Tryz.func124, Tryz.ntmps124
    go_wp2
    go_loopw [13] (fun s13 wr => EqRel xs ys s13 ∧ Plus w wr) (fun s13 _ => ((xs.length : Int) - intOf s13).toNat)
    case atStart => exact ⟨⟨0, by omega, rfl, rfl⟩, Plus.refl _⟩
    case round =>
      obtain ⟨⟨k, hk, rfl, he⟩, hp⟩ := hrel
      by_cases hlt : k < xs.length
      · obtain ⟨g, o, rfl, hg, hat⟩ := hrd.at_ hlt
        have hlt2 : k < ys.length := by rw [← HL.out]; exact hlt
        obtain ⟨g2, o2, rfl, hg2, hat2⟩ := krd.at_ hlt2
        have hcell := hat.plus hg hp k hlt
        have hcell2 := hat2.plus hg2 hp k hlt2
        have hadd := add_addr g o k
        have hadd2 := add_addr g2 o2 k
        have HE := Lib.hid he
        have HP := Lib.hid hp
        clear he hat hat2 hp
        obtain ⟨v, hv⟩ : ∃ v, xs.getD k 0 = v := ⟨_, rfl⟩
        obtain ⟨u, hu⟩ : ∃ u, ys.getD k 0 = u := ⟨_, rfl⟩
        rw [hv] at hcell
        rw [hu] at hcell2
        have HV := Lib.hid hv
        have HU := Lib.hid hu
        clear hv hu
        by_cases hvu : v = u
        · subst hvu
          have HT := Lib.hid (take_ext HE.out hlt hlt2 (by rw [HV.out, HU.out]))
          go_wp2_with fail
          go_quiet (fail)
          go_wp2_with fail
          go_roundw
          case rel => exact ⟨⟨k + 1, hlt, by rw [show ((k + 1 : Nat) : Int) = (k : Int) + 1 by omega], HT.out⟩, HP.out.drewN _⟩
          case measure => simp [intOf]; omega
        · have b2 : ((v : Int) != (u : Int)) = true := by simp; omega
          have HN : Hid (decide (xs = ys) = false) := Lib.hid (by simp; intro e; subst e; exact hvu (HV.out.symm.trans HU.out))
          go_wp2_with fail
          go_quiet (fail)
          go_wp2_with fail
          go_ret
          exact ⟨by rw [HN.out]; rfl, HP.out.drewN _⟩
      · obtain rfl : k = xs.length := by omega
        have HR : Hid (decide (xs = ys) = true) := Lib.hid (by
          rw [List.take_length, HL.out, List.take_length] at he
          simpa using he)
        have HP := Lib.hid hp
        clear he hp
        go_wp2_with fail
        go_ret
        exact ⟨by rw [HR.out]; rfl, HP.out⟩
  · have b1 : ((xs.length : Int) != (ys.length : Int)) = true := by simp; omega
    have HN : Hid (decide (xs = ys) = false) := Lib.hid (by simp; intro e; subst e; exact hl rfl)
    go_enter Tryz.func124, Tryz.ntmps124
    go_wp2
    go_ret
    exact ⟨by rw [HN.out]; rfl, Plus.refl _⟩
theorem same_c (A C : Option Addr) (xs ys : List Nat) (n c m d : Nat) (w : World) (ha : Ar .u16 65536 w A xs n c) (hb : Ar .u16 65536 w C ys m d) :
    Calls Tryz.prog 83 #[.slice A n c, .slice C m d] w fun e w' => e = .returned (.bool (decide (xs = ys))) ∧ Plus w w' := by
  have HA := Lib.hid ha
  have HB := Lib.hid hb
  clear ha hb
  go_enter Tryz.func83, Tryz.ntmps83
  go_wp2_with (go_at_call 124; refine (equal_c _ _ _ _ _ _ _ _ _ HA.out HB.out).mono ?_; rintro e w1 ⟨rfl, ⟨x, rfl⟩⟩)
  go_ret
  exact ⟨rfl, Plus.is x⟩
end Go.Proofs.YtmlfcmmgoiigkaaGreatDoor
