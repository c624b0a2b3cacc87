/- The document's Numeric. -/
import Derived.IntWalk
import Derived.Test.YtdckonlipinblaaGreatDoorD4
namespace Go.Proofs.YtdckonlipinblaaGreatDoor
open Go.RowKit


def otL : List Nat := [120, 88, 111, 79, 46, 43, 45, 95]
def numBase (c : Nat) : Bool := dgB c || (decide (97 ≤ c) && decide (c ≤ 102)) || (decide (65 ≤ c) && decide (c ≤ 70))
def numJ (c j : Nat) : Bool := numBase c || (otL.take j).contains c
def numOk (c : Nat) : Bool := numJ c 8
/-- What Numeric tells. -/
def numR (xs : List Nat) : Bool := xs.all numOk && xs.any dgB
theorem numJ_succ (c j : Nat) (hj : j < 8) : numJ c (j + 1) = (numJ c j || c == otL.getD j 0) := by
  unfold numJ
  have h8 : otL.length = 8 := rfl
  have e : otL.take (j + 1) = otL.take j ++ [otL.getD j 0] := by
    rw [List.take_succ_eq_append_getElem (by omega), List.getD_eq_getElem?_getD, List.getElem?_eq_getElem (by omega)]
    rfl
  rw [e, Bool.or_assoc]
  congr 1
  rw [Bool.eq_iff_iff]
  simp
theorem any_take {p : Nat → Bool} {xs : List Nat} {k : Nat} (hk : k < xs.length) : (xs.take (k + 1)).any p = ((xs.take k).any p || p (xs.getD k 0)) := by
  rw [List.take_succ_eq_append_getElem hk, List.any_append, List.getD_eq_getElem?_getD, List.getElem?_eq_getElem hk]
  simp
def NuRel (xs : List Nat) (s5 s6 : Value) : Prop := ∃ (k : Nat) (b : Bool), k ≤ xs.length ∧ s6 = .int .i64 k ∧ s5 = .bool b ∧ (xs.take k).any dgB = b ∧ (xs.take k).all numOk = true
def NiRel (c : Nat) (s8 s9 : Value) : Prop := ∃ (j : Nat) (b : Bool), j ≤ 8 ∧ s9 = .int .i64 j ∧ s8 = .bool b ∧ numJ c j = b
theorem ni_start {c : Nat} {b : Bool} (h : b = numBase c) : numJ c 0 = b := by rw [h]; unfold numJ; rw [List.take_zero]; cases numBase c <;> rfl
set_option maxRecDepth 100000 in
set_option maxHeartbeats 4000000 in
theorem rNumeric_c (A : Option Addr) (xs : List Nat) (n c : Nat) (w : World) (ha : Ar .u16 65536 w A xs n c) :
    Calls Tryz.prog 31 #[.slice A n c, .string ⟨#[120, 88, 111, 79, 46, 43, 45, 95]⟩] w fun e w' => e = .returned (.bool (numR xs)) ∧ w = w' := by
  obtain ⟨hrd, hlen, hcap, hmax, hbd⟩ := ha
  subst hlen
  go_enter Tryz.func31, Tryz.ntmps31
  go_wp2_with fail
  go_loop [5, 6] (NuRel xs) (fun _ s => ((xs.length : Int) - intOf s).toNat)
  case atStart => exact ⟨0, false, by omega, rfl, rfl, rfl, rfl⟩
  case round =>
    obtain ⟨k, sm, hk, rfl, rfl, hs, he⟩ := hrel
    by_cases hlt : k < xs.length
    · obtain ⟨g, o, rfl, hg, hat⟩ := hrd.at_ hlt
      have hcell := hat k hlt
      have hadd := add_addr g o k
      have hvb : xs.getD k 0 < 65536 := hbd _ (getD_mem hlt)
      have HE := Lib.hid he
      have HS := Lib.hid hs
      have HAny := Lib.hid (any_take (p := dgB) hlt)
      clear he hat hs
      obtain ⟨v, hv⟩ : ∃ v, xs.getD k 0 = v := ⟨_, rfl⟩
      rw [hv] at hcell hvb
      have HV := Lib.hid hv
      clear hv
      obtain ⟨dg, hdg⟩ : ∃ b, dgB v = b := ⟨_, rfl⟩
      have HD := Lib.hid hdg
      clear hdg
      have h3 : dg = true ∨ (dg = false ∧ ((97 ≤ v ∧ v ≤ 102) ∨ (v < 97 ∧ 65 ≤ v ∧ v ≤ 70) ∨ (v < 65) ∨ (70 < v ∧ v < 97) ∨ 102 < v)) := by
        cases dg
        · right; refine ⟨rfl, ?_⟩; omega
        · left; rfl
      have HB : Hid (∀ b : Bool, b = numBase v → numJ v 0 = b) := Lib.hid fun b h => ni_start h
      rcases h3 with rfl | ⟨rfl, ⟨q1, q2⟩ | ⟨q0, q1, q2⟩ | q1 | ⟨q1, q2⟩ | q1⟩
      all_goals
        first
          | (have d1 : decide ((v : Int) ≥ 97) = true := by simp; omega)
          | (have d1 : decide ((v : Int) ≥ 97) = false := by simp; omega)
          | skip
        first
          | (have d2 : decide ((v : Int) ≤ 102) = true := by simp; omega)
          | (have d2 : decide ((v : Int) ≤ 102) = false := by simp; omega)
          | skip
        first
          | (have d3 : decide ((v : Int) ≥ 65) = true := by simp; omega)
          | (have d3 : decide ((v : Int) ≥ 65) = false := by simp; omega)
          | skip
        first
          | (have d4 : decide ((v : Int) ≤ 70) = true := by simp; omega)
          | (have d4 : decide ((v : Int) ≤ 70) = false := by simp; omega)
          | skip
        have HQ := Lib.hid (show numBase v = _ from rfl)
        go_wp2_with (go_at_call 56; (with_reducible refine (rdigit_k HD hvb _).mono ?_); rintro e w1 ⟨rfl, rfl⟩)
        go_loop [8, 9] (NiRel v) (fun _ s => ((8 : Int) - intOf s).toNat)
        case atStart =>
          refine ⟨0, _, by omega, rfl, rfl, HB.out _ ?_⟩
          unfold numBase
          rw [HD.out]
          simp
          try omega
        case round =>
          obtain ⟨j, b, hj, rfl, rfl, hb⟩ := hrel
          have HJ := Lib.hid hb
          clear hb
          have hc9 : j = 0 ∨ j = 1 ∨ j = 2 ∨ j = 3 ∨ j = 4 ∨ j = 5 ∨ j = 6 ∨ j = 7 ∨ j = 8 := by omega
          rcases hc9 with rfl | rfl | rfl | rfl | rfl | rfl | rfl | rfl | rfl
          · have HN := Lib.hid (numJ_succ v 0 (by omega))
            cases b
            · by_cases hv : v = 120
              · have b1 : ((v : Int) == 120) = true := by simp; omega
                go_wp2_with fail
                go_round
                case rel => exact ⟨1, true, by omega, rfl, rfl, by rw [HN.out, hv]; simp [otL]⟩
                case measure => simp [intOf]
              · have b1 : ((v : Int) == 120) = false := by simp; omega
                go_wp2_with fail
                go_round
                case rel => exact ⟨1, false, by omega, rfl, congrArg Value.bool b1, by rw [HN.out, HJ.out]; simp [otL]; exact hv⟩
                case measure => simp [intOf]
            · go_wp2_with fail
              go_round
              case rel => exact ⟨1, true, by omega, rfl, rfl, by rw [HN.out, HJ.out]; rfl⟩
              case measure => simp [intOf]
          · have HN := Lib.hid (numJ_succ v 1 (by omega))
            cases b
            · by_cases hv : v = 88
              · have b1 : ((v : Int) == 88) = true := by simp; omega
                go_wp2_with fail
                go_round
                case rel => exact ⟨2, true, by omega, rfl, rfl, by rw [HN.out, hv]; simp [otL]⟩
                case measure => simp [intOf]
              · have b1 : ((v : Int) == 88) = false := by simp; omega
                go_wp2_with fail
                go_round
                case rel => exact ⟨2, false, by omega, rfl, congrArg Value.bool b1, by rw [HN.out, HJ.out]; simp [otL]; exact hv⟩
                case measure => simp [intOf]
            · go_wp2_with fail
              go_round
              case rel => exact ⟨2, true, by omega, rfl, rfl, by rw [HN.out, HJ.out]; rfl⟩
              case measure => simp [intOf]
          · have HN := Lib.hid (numJ_succ v 2 (by omega))
            cases b
            · by_cases hv : v = 111
              · have b1 : ((v : Int) == 111) = true := by simp; omega
                go_wp2_with fail
                go_round
                case rel => exact ⟨3, true, by omega, rfl, rfl, by rw [HN.out, hv]; simp [otL]⟩
                case measure => simp [intOf]
              · have b1 : ((v : Int) == 111) = false := by simp; omega
                go_wp2_with fail
                go_round
                case rel => exact ⟨3, false, by omega, rfl, congrArg Value.bool b1, by rw [HN.out, HJ.out]; simp [otL]; exact hv⟩
                case measure => simp [intOf]
            · go_wp2_with fail
              go_round
              case rel => exact ⟨3, true, by omega, rfl, rfl, by rw [HN.out, HJ.out]; rfl⟩
              case measure => simp [intOf]
          · have HN := Lib.hid (numJ_succ v 3 (by omega))
            cases b
            · by_cases hv : v = 79
              · have b1 : ((v : Int) == 79) = true := by simp; omega
                go_wp2_with fail
                go_round
                case rel => exact ⟨4, true, by omega, rfl, rfl, by rw [HN.out, hv]; simp [otL]⟩
                case measure => simp [intOf]
              · have b1 : ((v : Int) == 79) = false := by simp; omega
                go_wp2_with fail
                go_round
                case rel => exact ⟨4, false, by omega, rfl, congrArg Value.bool b1, by rw [HN.out, HJ.out]; simp [otL]; exact hv⟩
                case measure => simp [intOf]
            · go_wp2_with fail
              go_round
              case rel => exact ⟨4, true, by omega, rfl, rfl, by rw [HN.out, HJ.out]; rfl⟩
              case measure => simp [intOf]
          · have HN := Lib.hid (numJ_succ v 4 (by omega))
            cases b
            · by_cases hv : v = 46
              · have b1 : ((v : Int) == 46) = true := by simp; omega
                go_wp2_with fail
                go_round
                case rel => exact ⟨5, true, by omega, rfl, rfl, by rw [HN.out, hv]; simp [otL]⟩
                case measure => simp [intOf]
              · have b1 : ((v : Int) == 46) = false := by simp; omega
                go_wp2_with fail
                go_round
                case rel => exact ⟨5, false, by omega, rfl, congrArg Value.bool b1, by rw [HN.out, HJ.out]; simp [otL]; exact hv⟩
                case measure => simp [intOf]
            · go_wp2_with fail
              go_round
              case rel => exact ⟨5, true, by omega, rfl, rfl, by rw [HN.out, HJ.out]; rfl⟩
              case measure => simp [intOf]
          · have HN := Lib.hid (numJ_succ v 5 (by omega))
            cases b
            · by_cases hv : v = 43
              · have b1 : ((v : Int) == 43) = true := by simp; omega
                go_wp2_with fail
                go_round
                case rel => exact ⟨6, true, by omega, rfl, rfl, by rw [HN.out, hv]; simp [otL]⟩
                case measure => simp [intOf]
              · have b1 : ((v : Int) == 43) = false := by simp; omega
                go_wp2_with fail
                go_round
                case rel => exact ⟨6, false, by omega, rfl, congrArg Value.bool b1, by rw [HN.out, HJ.out]; simp [otL]; exact hv⟩
                case measure => simp [intOf]
            · go_wp2_with fail
              go_round
              case rel => exact ⟨6, true, by omega, rfl, rfl, by rw [HN.out, HJ.out]; rfl⟩
              case measure => simp [intOf]
          · have HN := Lib.hid (numJ_succ v 6 (by omega))
            cases b
            · by_cases hv : v = 45
              · have b1 : ((v : Int) == 45) = true := by simp; omega
                go_wp2_with fail
                go_round
                case rel => exact ⟨7, true, by omega, rfl, rfl, by rw [HN.out, hv]; simp [otL]⟩
                case measure => simp [intOf]
              · have b1 : ((v : Int) == 45) = false := by simp; omega
                go_wp2_with fail
                go_round
                case rel => exact ⟨7, false, by omega, rfl, congrArg Value.bool b1, by rw [HN.out, HJ.out]; simp [otL]; exact hv⟩
                case measure => simp [intOf]
            · go_wp2_with fail
              go_round
              case rel => exact ⟨7, true, by omega, rfl, rfl, by rw [HN.out, HJ.out]; rfl⟩
              case measure => simp [intOf]
          · have HN := Lib.hid (numJ_succ v 7 (by omega))
            cases b
            · by_cases hv : v = 95
              · have b1 : ((v : Int) == 95) = true := by simp; omega
                go_wp2_with fail
                go_round
                case rel => exact ⟨8, true, by omega, rfl, rfl, by rw [HN.out, hv]; simp [otL]⟩
                case measure => simp [intOf]
              · have b1 : ((v : Int) == 95) = false := by simp; omega
                go_wp2_with fail
                go_round
                case rel => exact ⟨8, false, by omega, rfl, congrArg Value.bool b1, by rw [HN.out, HJ.out]; simp [otL]; exact hv⟩
                case measure => simp [intOf]
            · go_wp2_with fail
              go_round
              case rel => exact ⟨8, true, by omega, rfl, rfl, by rw [HN.out, HJ.out]; rfl⟩
              case measure => simp [intOf]
          · cases b
            · have HN : Hid (numR xs = false) := Lib.hid (by unfold numR; rw [all_not hlt (by rw [HV.out]; exact HJ.out)]; rfl)
              go_wp2_with fail
              go_ret
              exact ⟨by rw [HN.out]; rfl, rfl⟩
            · have HT := Lib.hid (all_take HE.out hlt (by rw [HV.out]; exact HJ.out))
              cases sm
              all_goals
                go_wp2_with (go_at_call 56; (with_reducible refine (rdigit_k HD hvb _).mono ?_); rintro e w1 ⟨rfl, rfl⟩)
                go_round
                case rel => exact ⟨k + 1, _, hlt, by rw [show ((k + 1 : Nat) : Int) = (k : Int) + 1 by omega], rfl, by rw [HAny.out, HS.out, HV.out, HD.out]; rfl, HT.out⟩
                case measure => simp [intOf]; omega
    · obtain rfl : k = xs.length := by omega
      rw [List.take_length] at he hs
      have HN : Hid (numR xs = sm) := Lib.hid (by unfold numR; rw [he, hs]; rfl)
      clear he hs
      go_wp2_with fail
      go_ret
      exact ⟨by rw [HN.out]; rfl, rfl⟩
end Go.Proofs.YtdckonlipinblaaGreatDoor
