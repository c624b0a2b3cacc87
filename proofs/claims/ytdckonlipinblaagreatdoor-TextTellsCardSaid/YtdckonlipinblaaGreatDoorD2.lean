/- The document's digit, Blank, Digits, whole, Less. -/
import Derived.IntWalk
import Derived.Test.YtdckonlipinblaaGreatDoorD1
import Derived.Test.YtdckonlipinblaaGreatDoorT1
namespace Go.Proofs.YtdckonlipinblaaGreatDoor
open Go.RowKit


def dgB (c : Nat) : Bool := decide (48 ≤ c) && decide (c ≤ 57)

theorem rdigit_c (c : Nat) (hc : c < 65536) (w : World) : Calls Tryz.prog 56 #[.int .u16 c] w fun e w' => e = .returned (.bool (dgB c)) ∧ w = w' := by
  have hm : ∀ b : Bool, b = dgB c → (Value.bool b) = .bool (dgB c) := fun b h => by rw [h]
  have HM := Lib.hid hm; clear hm
  go_enter Tryz.func56, Tryz.ntmps56
  go_wp2
  all_goals go_ret
  all_goals refine ⟨congrArg Ending.returned (HM.out _ ?_), rfl⟩
  all_goals (rw [Bool.eq_iff_iff]; simp [dgB]; try omega)

theorem rBlank_c (c : Nat) (w : World) : Calls Tryz.prog 54 #[.int .u16 c] w fun e w' => e = .returned (.bool (blankB c)) ∧ w = w' := by
  by_cases h1 : c = 32
  · subst h1
    go_enter Tryz.func54, Tryz.ntmps54
    go_wp2
    go_ret
    exact ⟨rfl, rfl⟩
  by_cases h2 : c = 9
  · subst h2
    go_enter Tryz.func54, Tryz.ntmps54
    go_wp2
    go_ret
    exact ⟨rfl, rfl⟩
  by_cases h3 : c = 10
  · subst h3
    go_enter Tryz.func54, Tryz.ntmps54
    go_wp2
    go_ret
    exact ⟨rfl, rfl⟩
  by_cases h4 : c = 13
  · subst h4
    go_enter Tryz.func54, Tryz.ntmps54
    go_wp2
    go_ret
    exact ⟨rfl, rfl⟩
  have e : blankB c = false := by unfold blankB; simp [h1, h2, h3, h4]
  have b1 : ((c : Int) == 32) = false := by simp; omega
  have b2 : ((c : Int) == 9) = false := by simp; omega
  have b3 : ((c : Int) == 10) = false := by simp; omega
  have b4 : ((c : Int) == 13) = false := by simp; omega
  rw [e]
  go_enter Tryz.func54, Tryz.ntmps54
  go_wp2
  go_ret
  exact ⟨rfl, rfl⟩

theorem rdigit_k {c : Nat} {b : Bool} (h : Hid (dgB c = b)) (hc : c < 65536) (w : World) : Calls Tryz.prog 56 #[.int .u16 c] w fun e w' => e = .returned (.bool b) ∧ w = w' := by
  have q := rdigit_c c hc w
  rw [h.out] at q
  exact q
theorem rBlank_k {c : Nat} {b : Bool} (h : Hid (blankB c = b)) (w : World) : Calls Tryz.prog 54 #[.int .u16 c] w fun e w' => e = .returned (.bool b) ∧ w = w' := by
  have q := rBlank_c c w
  rw [h.out] at q
  exact q
/-- Digits alone, at least one. -/
def dgs (xs : List Nat) : Bool := xs.all dgB && decide (0 < xs.length)
def DgRel (p : Nat → Bool) (xs : List Nat) (s : Value) : Prop := ∃ k : Nat, k ≤ xs.length ∧ s = .int .i64 k ∧ (xs.take k).all p = true
theorem all_take {p : Nat → Bool} {xs : List Nat} {k : Nat} (h : (xs.take k).all p = true) (hk : k < xs.length) (hv : p (xs.getD k 0) = true) : (xs.take (k + 1)).all p = true := by
  rw [List.getD_eq_getElem?_getD, List.getElem?_eq_getElem hk] at hv
  rw [List.take_succ_eq_append_getElem hk, List.all_append, h]
  simpa using hv
theorem all_not {p : Nat → Bool} {xs : List Nat} {k : Nat} (hk : k < xs.length) (hv : p (xs.getD k 0) = false) : xs.all p = false := by
  rw [List.all_eq_false]
  exact ⟨_, getD_mem hk, by rw [hv]; simp⟩
set_option maxRecDepth 100000 in
set_option maxHeartbeats 1000000 in
theorem rDigits_c (A : Option Addr) (xs : List Nat) (n c : Nat) (w : World) (ha : Ar .u16 65536 w A xs n c) :
    Calls Tryz.prog 29 #[.slice A n c] w fun e w' => e = .returned (.bool (dgs xs)) ∧ w = w' := by
  obtain ⟨hrd, hlen, hcap, hmax, hbd⟩ := ha
  subst hlen
  go_enter Tryz.func29, Tryz.ntmps29
  go_wp2
  go_loop [3] (DgRel dgB xs) (fun s => ((xs.length : Int) - intOf s).toNat)
  case atStart => exact ⟨0, by omega, rfl, rfl⟩
  case round =>
    obtain ⟨k, hk, rfl, he⟩ := hrel
    by_cases hlt : k < xs.length
    · obtain ⟨g, o, rfl, hg, hat⟩ := hrd.at_ hlt
      have hcell := hat k hlt
      have hadd := add_addr g o k
      have HE := Lib.hid he
      have hvb : xs.getD k 0 < 65536 := hbd _ (getD_mem hlt)
      clear he hat
      obtain ⟨v, hv⟩ : ∃ v, xs.getD k 0 = v := ⟨_, rfl⟩
      rw [hv] at hcell hvb
      have HV := Lib.hid hv
      clear hv
      cases hd : dgB v
      · have HD := Lib.hid hd
        have HN : Hid (dgs xs = false) := Lib.hid (by unfold dgs; rw [all_not hlt (by rw [HV.out]; exact hd)]; rfl)
        clear hd
        go_wp2_with (go_at_call 56; (with_reducible refine (rdigit_k HD hvb _).mono ?_); rintro e w1 ⟨rfl, rfl⟩)
        go_ret
        exact ⟨by rw [HN.out]; rfl, rfl⟩
      · have HD := Lib.hid hd
        have HT := Lib.hid (all_take HE.out hlt (by rw [HV.out]; exact hd))
        clear hd
        go_wp2_with (go_at_call 56; (with_reducible refine (rdigit_k HD hvb _).mono ?_); rintro e w1 ⟨rfl, rfl⟩)
        go_round
        case rel => exact ⟨k + 1, hlt, by rw [show ((k + 1 : Nat) : Int) = (k : Int) + 1 by omega], HT.out⟩
        case measure => simp [intOf]; omega
    · obtain rfl : k = xs.length := by omega
      rw [List.take_length] at he
      have hm : ∀ b : Bool, b = decide (0 < xs.length) → (Value.bool b) = .bool (dgs xs) := fun b h => by rw [h]; unfold dgs; rw [he]; rfl
      have HM := Lib.hid hm
      clear hm he
      go_wp2
      all_goals go_ret
      all_goals refine ⟨congrArg Ending.returned (HM.out _ ?_), rfl⟩
      all_goals (first | rfl | (rw [Bool.eq_iff_iff]; simp; try omega))
end Go.Proofs.YtdckonlipinblaaGreatDoor
