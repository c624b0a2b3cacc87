/- Lists held against one another. -/
import Derived.WalkKit
import Derived.WalkSpells
import Derived.WalkLawsBesides
import Derived.Handy
import Derived.Deep.RegionHeld3
import Derived.Deep.DeepCutAuto
import Derived.Deep.QuietTactic
import Derived.BigQuiet
import Derived.Lib.Hide
import Derived.KernelRfl
import Derived.WalkMore
import Derived.Deep.LoopGhost
import Derived.Laws.IdiomStrings
import Derived.Test.YtjojkogmbgppcaaC6
import Derived.Test.YtjojkogmbgppcaaC7
namespace Go.Proofs.Ytjojkogmbgppcaa
open Go.RowKit


def isB (l : List Nat) : Prop := ∀ x ∈ l, x < 256
/-- Numbers as bytes. -/
def byts (xs : List Nat) : ByteArray := ⟨(xs.map Nat.toUInt8).toArray⟩
theorem byts_size (xs : List Nat) : (byts xs).size = xs.length := by show (xs.map Nat.toUInt8).toArray.size = _; simp
theorem toNat_u8 {x : Nat} (h : x < 256) : x.toUInt8.toNat = x := by
  show x % 2 ^ 8 = x
  exact Nat.mod_eq_of_lt h
theorem conv_bytes {w : World} {xs : List Nat} (g o c : Nat) (h : At .u8 w g o xs) (hb : isB xs) : (convert 23 9 (.slice (some ⟨g, o, none⟩) xs.length c)).run Try.prog w = .ok (.string (byts xs)) w := by
  have q := run_convert_bytes_back (P := Try.prog) w 23 9 5 ⟨g, o, none⟩ c (xs.map Nat.toUInt8) Try.underlying23 Try.underlying5 Try.underlying9 (fun j hj => by
    rw [List.length_map] at hj
    have h1 := h j hj
    rw [add_addr, h1, List.getElem_map, toNat_u8 (hb _ (List.getElem_mem hj)), List.getD_eq_getElem?_getD, List.getElem?_eq_getElem hj]
    rfl)
  rw [List.length_map] at q
  exact q
theorem toList_data (s : ByteArray) : s.toList = s.data.toList := ByteArray.toList_eq s
theorem take_ext {xs ys : List Nat} {k : Nat} (h : xs.take k = ys.take k) (h1 : k < xs.length) (h2 : k < ys.length) (hv : xs.getD k 0 = ys.getD k 0) : xs.take (k + 1) = ys.take (k + 1) := by
  rw [List.getD_eq_getElem?_getD, List.getD_eq_getElem?_getD, List.getElem?_eq_getElem h1, List.getElem?_eq_getElem h2] at hv
  have e : xs[k] = ys[k] := by simpa using hv
  rw [List.take_succ_eq_append_getElem h1, List.take_succ_eq_append_getElem h2, h, e]
def EqRel5 (xs ys : List Nat) (s13 : Value) : Prop := ∃ k : Nat, k ≤ xs.length ∧ s13 = .int .i64 k ∧ xs.take k = ys.take k
set_option maxRecDepth 100000 in
set_option maxHeartbeats 1000000 in
theorem refInts_c (A C : Option Addr) (xs ys : List Nat) (n c m d : Nat) (w : World) (ha : Ar .i64 9223372036854775808 w A xs n c) (hb : Ar .i64 9223372036854775808 w C ys m d) :
    Calls Try.prog 36 #[.slice A n c, .slice C m d] w fun e w' => e = .returned (.bool (decide (xs = ys))) ∧ Plus w w' := by
  obtain ⟨hrd, hlen, hcap, hmax, hbd⟩ := ha
  obtain ⟨krd, klen, kcap, kmax, kbd⟩ := hb
  subst hlen klen
  by_cases hl : xs.length = ys.length
  · have b1 : ((xs.length : Int) != (ys.length : Int)) = false := by simp [hl]
    have HL := Lib.hid hl
    clear hl
    go_enter Try.func36, Try.ntmps36
    go_wp2
    go_loopw [5] (fun s13 wr => EqRel5 xs ys s13 ∧ Plus w wr) (fun s13 _ => ((xs.length : Int) - intOf s13).toNat)
    case atStart => exact ⟨⟨0, by omega, rfl, rfl⟩, Plus.refl _⟩
    case round =>
      obtain ⟨⟨k, hk, rfl, he⟩, hp⟩ := hrel
      by_cases hlt : k < xs.length
      · obtain ⟨g, o, rfl, hg, hat⟩ := hrd.at_ hlt
        have hlt2 : k < ys.length := by rw [← HL.out]; exact hlt
        obtain ⟨g2, o2, rfl, hg2, hat2⟩ := krd.at_ hlt2
        have hcell := hat.plus hg hp k hlt
        have hcell2 := hat2.plus hg2 hp k hlt2
        have hadd := add_addr g o k
        have hadd2 := add_addr g2 o2 k
        have HE := Lib.hid he
        have HP := Lib.hid hp
        clear he hat hat2 hp
        obtain ⟨v, hv⟩ : ∃ v, xs.getD k 0 = v := ⟨_, rfl⟩
        obtain ⟨u, hu⟩ : ∃ u, ys.getD k 0 = u := ⟨_, rfl⟩
        rw [hv] at hcell
        rw [hu] at hcell2
        have HV := Lib.hid hv
        have HU := Lib.hid hu
        clear hv hu
        by_cases hvu : v = u
        · subst hvu
          have HT := Lib.hid (take_ext HE.out hlt hlt2 (by rw [HV.out, HU.out]))
          go_wp2_with fail
          go_quiet (fail)
          go_wp2_with fail
          go_roundw
          case rel => exact ⟨⟨k + 1, hlt, by rw [show ((k + 1 : Nat) : Int) = (k : Int) + 1 by omega], HT.out⟩, HP.out.drewN _⟩
          case measure => simp [intOf]; omega
        · have b2 : ((v : Int) != (u : Int)) = true := by simp; omega
          have HN : Hid (decide (xs = ys) = false) := Lib.hid (by simp; intro e; subst e; exact hvu (HV.out.symm.trans HU.out))
          go_wp2_with fail
          go_quiet (fail)
          go_wp2_with fail
          go_ret
          exact ⟨by rw [HN.out]; rfl, HP.out.drewN _⟩
      · obtain rfl : k = xs.length := by omega
        have HR : Hid (decide (xs = ys) = true) := Lib.hid (by
          rw [List.take_length, HL.out, List.take_length] at he
          simpa using he)
        have HP := Lib.hid hp
        clear he hp
        go_wp2_with fail
        go_ret
        exact ⟨by rw [HR.out]; rfl, HP.out⟩
  · have b1 : ((xs.length : Int) != (ys.length : Int)) = true := by simp; omega
    have HN : Hid (decide (xs = ys) = false) := Lib.hid (by simp; intro e; subst e; exact hl rfl)
    go_enter Try.func36, Try.ntmps36
    go_wp2
    go_ret
    exact ⟨by rw [HN.out]; rfl, Plus.refl _⟩

theorem byts_inj {xs ys : List Nat} (hx : isB xs) (hy : isB ys) : ((byts xs).toList == (byts ys).toList) = decide (xs = ys) := by
  rw [toList_data, toList_data]
  show ((xs.map Nat.toUInt8) == (ys.map Nat.toUInt8)) = _
  rw [Bool.eq_iff_iff]
  simp only [beq_iff_eq, decide_eq_true_eq]
  constructor
  · intro h
    have h2 := congrArg (List.map UInt8.toNat) h
    rw [List.map_map, List.map_map] at h2
    have e : ∀ l : List Nat, isB l → l.map (UInt8.toNat ∘ Nat.toUInt8) = l := fun l hl => by
      conv => rhs; rw [← List.map_id l]
      exact List.map_congr_left fun x hx => toNat_u8 (hl x hx)
    rwa [e xs hx, e ys hy] at h2
  · intro h; rw [h]
theorem conv_any {w : World} {A : Option Addr} {xs : List Nat} {c : Nat} (h : Rd .u8 w A xs) (hb : isB xs) : (convert 23 9 (.slice A xs.length c)).run Try.prog w = .ok (.string (byts xs)) w := by
  by_cases h0 : 0 < xs.length
  · obtain ⟨g, o, rfl, hg, hat⟩ := h h0
    exact conv_bytes g o c hat hb
  · have : xs = [] := List.eq_nil_of_length_eq_zero (by omega)
    subst this
    cases A with
    | none =>
      rw [show ([] : List Nat).length = 0 from rfl, run_convert_bytes_string w 23 9 5 none 0 c Try.underlying23 Try.underlying5 Try.underlying9]
      rfl
    | some ad => exact run_convert_bytes_back (P := Try.prog) w 23 9 5 ad c [] Try.underlying23 Try.underlying5 Try.underlying9 (fun j hj => absurd hj (by simp))
set_option maxRecDepth 100000 in
theorem refBytes_c (A C : Option Addr) (xs ys : List Nat) (n c m d : Nat) (w : World) (ha : Ar .u8 256 w A xs n c) (hb : Ar .u8 256 w C ys m d) :
    Calls Try.prog 19 #[.slice A n c, .slice C m d] w fun e w' => e = .returned (.bool (decide (xs = ys))) ∧ w = w' := by
  obtain ⟨hrd, hlen, hcap, hmax, hbd⟩ := ha
  obtain ⟨krd, klen, kcap, kmax, kbd⟩ := hb
  subst hlen klen
  have c1 := conv_any (c := c) hrd hbd
  have c2 := conv_any (c := d) krd kbd
  have e1 := byts_inj hbd kbd
  have E1 := Lib.hid e1
  clear e1 hrd krd
  go_enter Try.func19, Try.ntmps19
  go_wp2
  go_ret
  exact ⟨by rw [← E1.out]; rfl, rfl⟩

theorem refBytes_n {A C : Option Addr} {xs ys : List Nat} {n c m d : Nat} {b : Bool} (h : Hid (decide (xs = ys) = b)) (w : World) (ha : Ar .u8 256 w A xs n c) (hb : Ar .u8 256 w C ys m d) :
    Calls Try.prog 19 #[.slice A n c, .slice C m d] w fun e w' => e = .returned (.bool b) ∧ Plus w w' := by
  rw [← h.out]
  exact (refBytes_c A C xs ys n c m d w ha hb).mono fun _ _ q => ⟨q.1, q.2 ▸ Plus.refl _⟩
theorem refInts_n {A C : Option Addr} {xs ys : List Nat} {n c m d : Nat} {b : Bool} (h : Hid (decide (xs = ys) = b)) (w : World) (ha : Ar .i64 9223372036854775808 w A xs n c) (hb : Ar .i64 9223372036854775808 w C ys m d) :
    Calls Try.prog 36 #[.slice A n c, .slice C m d] w fun e w' => e = .returned (.bool b) ∧ Plus w w' := by
  rw [← h.out]; exact refInts_c A C xs ys n c m d w ha hb
end Go.Proofs.Ytjojkogmbgppcaa
