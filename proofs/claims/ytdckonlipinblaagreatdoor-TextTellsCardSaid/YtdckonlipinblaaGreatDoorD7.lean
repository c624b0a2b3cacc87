/- The document's Number. -/
import Derived.IntWalk
import Derived.Test.YtdckonlipinblaaGreatDoorD6
namespace Go.Proofs.YtdckonlipinblaaGreatDoor
open Go.RowKit


def sgB (t : List Nat) : Bool := decide (t.getD 0 0 = 45)
def dropS (t : List Nat) : List Nat := if t.getD 0 0 = 45 ∨ t.getD 0 0 = 43 then t.drop 1 else t
/-- What Number tells of a text without outer blanks. -/
def rNum (t : List Nat) : Ans :=
  if t = [] then ⟨0, 0, true⟩
  else if dropS t = infN then ⟨if sgB t then 4 else 3, 0, true⟩
  else if dgs (dropS t) then (if vd (dropS t) ≤ 9007199254740991 then ⟨sgnK (sgB t) 0 (vd (dropS t)), sgnN (sgB t) 0 (vd (dropS t)), true⟩ else ⟨2, 0, false⟩)
  else ⟨2, 0, !numR t⟩
def NuP (xs : List Nat) (w : World) (e : Ending) (w' : World) : Prop := ∃ mid, TrimOf xs mid ∧ e = .returned (.tuple #[.agg #[.int .i64 (rNum mid).k, .int .i64 (rNum mid).n], .bool (rNum mid).ok]) ∧ Plus w w'
theorem nup {xs mid : List Nat} {w w' : World} {e : Ending} {k n : Int} {b : Bool} (h : Hid (TrimOf xs mid)) (hr : Hid (rNum mid = ⟨k, n, b⟩)) (he : e = .returned (.tuple #[.agg #[.int .i64 k, .int .i64 n], .bool b])) (hp : Plus w w') : NuP xs w e w' := ⟨mid, h.out, by rw [hr.out]; exact he, hp⟩
theorem infA : nats ⟨#[73, 110, 102, 105, 110, 105, 116, 121]⟩ = infN ∧ 8 = infN.length := by constructor <;> decide
set_option maxRecDepth 100000 in
set_option maxHeartbeats 8000000 in
theorem rNumber_c (A : Option Addr) (xs : List Nat) (n c : Nat) (w : World) (ha : Ar .u16 65536 w A xs n c) :
    Calls Tryz.prog 8 #[.slice A n c] w (NuP xs w) := by
  have HA := Lib.hid ha
  have HI := Lib.hid infA
  clear ha
  go_enter Tryz.func8, Tryz.ntmps8
  go_wp2_with fail
  refine (rTrim_c _ _ _ _ _ (HA.out.plus (by repeat' (first | exact Plus.refl _ | refine Plus.alloc ?_ _ | refine Plus.plus ?_ _ | refine Plus.drew ?_ | refine Plus.drewN ?_ _)))).mono ?_
  rintro e w1 ⟨C, m, d, mid, rfl, rfl, hM, hall⟩
  have ht := hall w HA.out
  have HM := Lib.hid hM
  clear hall hM
  obtain rfl := ht.len
  have HT := Lib.hid ht
  obtain ⟨hrd, _, hcap, hmax, hbd⟩ := ht
  cases mid with
  | nil =>
    clear hrd hbd
    have HR : Hid (rNum [] = ⟨0, 0, true⟩) := Lib.hid rfl
    go_wp2_with fail
    go_returns
    exact nup HM HR rfl (by repeat' (first | exact Plus.refl _ | refine Plus.alloc ?_ _ | refine Plus.plus ?_ _ | refine Plus.drew ?_ | refine Plus.drewN ?_ _))
  | cons v r =>
    obtain ⟨g, o, rfl, hg, hat⟩ := hrd (by simp)
    have hcell := hat 0 (by simp)
    have hadd := add_addr g o 0
    simp only [Nat.add_zero, List.getD_cons_zero] at hcell hadd
    haveI : Old g w := ⟨hg⟩
    have hm0 : ((r.length + 1 : Nat) : Int) = (r.length : Int) + 1 := by omega
    simp only [List.length_cons] at hcap HT ⊢
    clear hrd hbd hat
    by_cases h45 : v = 45
    · subst h45
      by_cases hd1 : d = 1
      · subst hd1
        obtain rfl : r = [] := List.eq_nil_of_length_eq_zero (by omega)
        replace HT : Hid (Ar .u16 65536 w (some ⟨g, o, none⟩) [45] 1 1) := HT
        have HDr : Hid (Ar .u16 65536 w (some ⟨g, o, none⟩) [] 0 0) := Lib.hid ⟨Rd.nil, rfl, by omega, by omega, fun x hx => by simp at hx⟩
        go_wp2_with fail
        (with_reducible refine (rNaN_c _).mono ?_)
        rintro e w1 ⟨rfl, ⟨x1, rfl⟩⟩
        go_wp2_with fail
        (with_reducible refine (refAscii_n _ (by decide) infN 8 HI _).mono ?_)
        rintro e w1 ⟨A9, c9, rfl, a9, ⟨x2, rfl⟩⟩
        replace a9 := Lib.hid a9
        obtain ⟨b1, hb1⟩ : ∃ b, decide (([] : List Nat) = infN) = b := ⟨_, rfl⟩
        cases b1
        · have HB1 := Lib.hid hb1
          have hni : ([] : List Nat) ≠ infN := by simpa using hb1
          clear hb1
          go_wp2_with fail
          (with_reducible refine (refUnits_n HB1 _ (HDr.out.plus (by repeat' (first | exact Plus.refl _ | refine Plus.alloc ?_ _ | refine Plus.plus ?_ _ | refine Plus.drew ?_ | refine Plus.drewN ?_ _))) (a9.out.plus (by repeat' (first | exact Plus.refl _ | refine Plus.alloc ?_ _ | refine Plus.plus ?_ _ | refine Plus.drew ?_ | refine Plus.drewN ?_ _)))).mono ?_)
          rintro e w1 ⟨rfl, ⟨x3, rfl⟩⟩
          clear a9
          obtain ⟨b2, hb2⟩ : ∃ b, dgs (([] : List Nat)) = b := ⟨_, rfl⟩
          have HB2 := Lib.hid hb2
          cases b2
          · obtain ⟨b3, hb3⟩ : ∃ b, numR [45] = b := ⟨_, rfl⟩
            have HB3 := Lib.hid hb3
            have HR : Hid (rNum [45] = ⟨2, 0, !b3⟩) := Lib.hid (by unfold rNum; rw [if_neg (by simp), show dropS [45] = [] from by unfold dropS; simp, if_neg hni, hb2, hb3]; rfl)
            clear hb2 hb3 hni
            go_wp2_with fail
            (with_reducible refine (rDigits_n HB2 _ (HDr.out.plus (by repeat' (first | exact Plus.refl _ | refine Plus.alloc ?_ _ | refine Plus.plus ?_ _ | refine Plus.drew ?_ | refine Plus.drewN ?_ _)))).mono ?_)
            rintro e w1 ⟨rfl, rfl⟩
            go_wp2_with fail
            go_region_with (go_at_call 31; (with_reducible refine (rNumeric_n HB3 _ (HT.out.plus (by repeat' (first | exact Plus.refl _ | refine Plus.alloc ?_ _ | refine Plus.plus ?_ _ | refine Plus.drew ?_ | refine Plus.drewN ?_ _)))).mono ?_); rintro e w1 ⟨rfl, rfl⟩)
            all_goals
              go_wp2_with fail
              go_returns
              exact nup HM HR rfl (by repeat' (first | exact Plus.refl _ | refine Plus.alloc ?_ _ | refine Plus.plus ?_ _ | refine Plus.drew ?_ | refine Plus.drewN ?_ _))
          · have hall : (([] : List Nat)).all dgB = true := by unfold dgs at hb2; rw [Bool.and_eq_true] at hb2; exact hb2.1
            obtain ⟨z, hz⟩ : ∃ z : Nat, vd (([] : List Nat)) = z := ⟨_, rfl⟩
            go_wp2_with fail
            (with_reducible refine (rDigits_n HB2 _ (HDr.out.plus (by repeat' (first | exact Plus.refl _ | refine Plus.alloc ?_ _ | refine Plus.plus ?_ _ | refine Plus.drew ?_ | refine Plus.drewN ?_ _)))).mono ?_)
            rintro e w1 ⟨rfl, rfl⟩
            by_cases hs : z ≤ 9007199254740991
            · have HW : Hid ((([] : List Nat)).all dgB = true ∧ whI (vd (([] : List Nat))) = (z : Int)) := Lib.hid ⟨hall, by unfold whI; rw [hz, if_pos hs]⟩
              obtain ⟨p, q, hpq⟩ : ∃ p q : Int, (negR 0 z).k = p ∧ (negR 0 z).n = q := ⟨_, _, rfl, rfl⟩
              have HN := Lib.hid hpq
              have HR : Hid (rNum [45] = ⟨p, q, true⟩) := Lib.hid (by unfold rNum; rw [if_neg (by simp), show dropS [45] = [] from by unfold dropS; simp, if_neg hni, hb2, if_pos rfl, hz, if_pos hs, show sgB [45] = true from rfl]; unfold sgnK sgnN; rw [if_pos rfl, if_pos rfl, hpq.1, hpq.2])
              clear hpq
              clear hb2 hni hall hz
              go_wp2_with fail
              (with_reducible refine (rwhole_n HW _ (HDr.out.plus (by repeat' (first | exact Plus.refl _ | refine Plus.alloc ?_ _ | refine Plus.plus ?_ _ | refine Plus.drew ?_ | refine Plus.drewN ?_ _)))).mono ?_)
              rintro e w1 ⟨rfl, rfl⟩
              have d1 : decide ((z : Int) < 0) = false := by simp
              go_wp2_with fail
              (with_reducible refine (rneg_n HN _).mono ?_)
              rintro e w1 ⟨rfl, ⟨x4, rfl⟩⟩
              go_wp2_with fail
              go_returns
              exact nup HM HR rfl (by repeat' (first | exact Plus.refl _ | refine Plus.alloc ?_ _ | refine Plus.plus ?_ _ | refine Plus.drew ?_ | refine Plus.drewN ?_ _))
            · have HW : Hid ((([] : List Nat)).all dgB = true ∧ whI (vd (([] : List Nat))) = -1) := Lib.hid ⟨hall, by unfold whI; rw [hz, if_neg hs]⟩
              have HR : Hid (rNum [45] = ⟨2, 0, false⟩) := Lib.hid (by unfold rNum; rw [if_neg (by simp), show dropS [45] = [] from by unfold dropS; simp, if_neg hni, hb2, if_pos rfl, hz, if_neg hs])
              clear hb2 hni hall hz
              go_wp2_with fail
              (with_reducible refine (rwhole_n HW _ (HDr.out.plus (by repeat' (first | exact Plus.refl _ | refine Plus.alloc ?_ _ | refine Plus.plus ?_ _ | refine Plus.drew ?_ | refine Plus.drewN ?_ _)))).mono ?_)
              rintro e w1 ⟨rfl, rfl⟩
              go_wp2_with fail
              go_returns
              exact nup HM HR rfl (by repeat' (first | exact Plus.refl _ | refine Plus.alloc ?_ _ | refine Plus.plus ?_ _ | refine Plus.drew ?_ | refine Plus.drewN ?_ _))
        · have HB1 := Lib.hid hb1
          have hyi : ([] : List Nat) = infN := by simpa using hb1
          clear hb1
          have HR : Hid (rNum [45] = ⟨4, 0, true⟩) := Lib.hid (by unfold rNum; rw [if_neg (by simp), show dropS [45] = [] from by unfold dropS; simp, if_pos hyi, show sgB [45] = true from rfl]; rfl)
          clear hyi
          go_wp2_with fail
          (with_reducible refine (refUnits_n HB1 _ (HDr.out.plus (by repeat' (first | exact Plus.refl _ | refine Plus.alloc ?_ _ | refine Plus.plus ?_ _ | refine Plus.drew ?_ | refine Plus.drewN ?_ _))) (a9.out.plus (by repeat' (first | exact Plus.refl _ | refine Plus.alloc ?_ _ | refine Plus.plus ?_ _ | refine Plus.drew ?_ | refine Plus.drewN ?_ _)))).mono ?_)
          rintro e w1 ⟨rfl, ⟨x3, rfl⟩⟩
          clear a9
          have HN : Hid ((negR 3 0).k = 4 ∧ (negR 3 0).n = 0) := Lib.hid (by decide)
          go_wp2_with fail
          (with_reducible refine (rneg_n HN _).mono ?_)
          rintro e w1 ⟨rfl, ⟨x4, rfl⟩⟩
          go_wp2_with fail
          go_returns
          exact nup HM HR rfl (by repeat' (first | exact Plus.refl _ | refine Plus.alloc ?_ _ | refine Plus.plus ?_ _ | refine Plus.drew ?_ | refine Plus.drewN ?_ _))
      · have HDr : Hid (Ar .u16 65536 w (some ⟨g, o + 1, none⟩) r r.length (d - 1)) := Lib.hid (by
          have e := ar_mid (a := 1) (j := r.length + 1) HT.out (by omega) (by omega)
          have e2 : ((45 :: r).drop 1).take (r.length + 1 - 1) = r := by simp
          rw [e2, show r.length + 1 - 1 = r.length by omega] at e
          exact e)
        go_wp2_with fail
        (with_reducible refine (rNaN_c _).mono ?_)
        rintro e w1 ⟨rfl, ⟨x1, rfl⟩⟩
        go_wp2_with fail
        (with_reducible refine (refAscii_n _ (by decide) infN 8 HI _).mono ?_)
        rintro e w1 ⟨A9, c9, rfl, a9, ⟨x2, rfl⟩⟩
        replace a9 := Lib.hid a9
        obtain ⟨b1, hb1⟩ : ∃ b, decide (r = infN) = b := ⟨_, rfl⟩
        cases b1
        · have HB1 := Lib.hid hb1
          have hni : r ≠ infN := by simpa using hb1
          clear hb1
          go_wp2_with fail
          (with_reducible refine (refUnits_n HB1 _ (HDr.out.plus (by repeat' (first | exact Plus.refl _ | refine Plus.alloc ?_ _ | refine Plus.plus ?_ _ | refine Plus.drew ?_ | refine Plus.drewN ?_ _))) (a9.out.plus (by repeat' (first | exact Plus.refl _ | refine Plus.alloc ?_ _ | refine Plus.plus ?_ _ | refine Plus.drew ?_ | refine Plus.drewN ?_ _)))).mono ?_)
          rintro e w1 ⟨rfl, ⟨x3, rfl⟩⟩
          clear a9
          obtain ⟨b2, hb2⟩ : ∃ b, dgs (r) = b := ⟨_, rfl⟩
          have HB2 := Lib.hid hb2
          cases b2
          · obtain ⟨b3, hb3⟩ : ∃ b, numR (45 :: r) = b := ⟨_, rfl⟩
            have HB3 := Lib.hid hb3
            have HR : Hid (rNum (45 :: r) = ⟨2, 0, !b3⟩) := Lib.hid (by unfold rNum; rw [if_neg (by simp), show dropS (45 :: r) = r from by unfold dropS; simp, if_neg hni, hb2, hb3]; rfl)
            clear hb2 hb3 hni
            go_wp2_with fail
            (with_reducible refine (rDigits_n HB2 _ (HDr.out.plus (by repeat' (first | exact Plus.refl _ | refine Plus.alloc ?_ _ | refine Plus.plus ?_ _ | refine Plus.drew ?_ | refine Plus.drewN ?_ _)))).mono ?_)
            rintro e w1 ⟨rfl, rfl⟩
            go_wp2_with fail
            go_region_with (go_at_call 31; (with_reducible refine (rNumeric_n HB3 _ (HT.out.plus (by repeat' (first | exact Plus.refl _ | refine Plus.alloc ?_ _ | refine Plus.plus ?_ _ | refine Plus.drew ?_ | refine Plus.drewN ?_ _)))).mono ?_); rintro e w1 ⟨rfl, rfl⟩)
            all_goals
              go_wp2_with fail
              go_returns
              exact nup HM HR rfl (by repeat' (first | exact Plus.refl _ | refine Plus.alloc ?_ _ | refine Plus.plus ?_ _ | refine Plus.drew ?_ | refine Plus.drewN ?_ _))
          · have hall : (r).all dgB = true := by unfold dgs at hb2; rw [Bool.and_eq_true] at hb2; exact hb2.1
            obtain ⟨z, hz⟩ : ∃ z : Nat, vd (r) = z := ⟨_, rfl⟩
            go_wp2_with fail
            (with_reducible refine (rDigits_n HB2 _ (HDr.out.plus (by repeat' (first | exact Plus.refl _ | refine Plus.alloc ?_ _ | refine Plus.plus ?_ _ | refine Plus.drew ?_ | refine Plus.drewN ?_ _)))).mono ?_)
            rintro e w1 ⟨rfl, rfl⟩
            by_cases hs : z ≤ 9007199254740991
            · have HW : Hid ((r).all dgB = true ∧ whI (vd (r)) = (z : Int)) := Lib.hid ⟨hall, by unfold whI; rw [hz, if_pos hs]⟩
              obtain ⟨p, q, hpq⟩ : ∃ p q : Int, (negR 0 z).k = p ∧ (negR 0 z).n = q := ⟨_, _, rfl, rfl⟩
              have HN := Lib.hid hpq
              have HR : Hid (rNum (45 :: r) = ⟨p, q, true⟩) := Lib.hid (by unfold rNum; rw [if_neg (by simp), show dropS (45 :: r) = r from by unfold dropS; simp, if_neg hni, hb2, if_pos rfl, hz, if_pos hs, show sgB (45 :: r) = true from rfl]; unfold sgnK sgnN; rw [if_pos rfl, if_pos rfl, hpq.1, hpq.2])
              clear hpq
              clear hb2 hni hall hz
              go_wp2_with fail
              (with_reducible refine (rwhole_n HW _ (HDr.out.plus (by repeat' (first | exact Plus.refl _ | refine Plus.alloc ?_ _ | refine Plus.plus ?_ _ | refine Plus.drew ?_ | refine Plus.drewN ?_ _)))).mono ?_)
              rintro e w1 ⟨rfl, rfl⟩
              have d1 : decide ((z : Int) < 0) = false := by simp
              go_wp2_with fail
              (with_reducible refine (rneg_n HN _).mono ?_)
              rintro e w1 ⟨rfl, ⟨x4, rfl⟩⟩
              go_wp2_with fail
              go_returns
              exact nup HM HR rfl (by repeat' (first | exact Plus.refl _ | refine Plus.alloc ?_ _ | refine Plus.plus ?_ _ | refine Plus.drew ?_ | refine Plus.drewN ?_ _))
            · have HW : Hid ((r).all dgB = true ∧ whI (vd (r)) = -1) := Lib.hid ⟨hall, by unfold whI; rw [hz, if_neg hs]⟩
              have HR : Hid (rNum (45 :: r) = ⟨2, 0, false⟩) := Lib.hid (by unfold rNum; rw [if_neg (by simp), show dropS (45 :: r) = r from by unfold dropS; simp, if_neg hni, hb2, if_pos rfl, hz, if_neg hs])
              clear hb2 hni hall hz
              go_wp2_with fail
              (with_reducible refine (rwhole_n HW _ (HDr.out.plus (by repeat' (first | exact Plus.refl _ | refine Plus.alloc ?_ _ | refine Plus.plus ?_ _ | refine Plus.drew ?_ | refine Plus.drewN ?_ _)))).mono ?_)
              rintro e w1 ⟨rfl, rfl⟩
              go_wp2_with fail
              go_returns
              exact nup HM HR rfl (by repeat' (first | exact Plus.refl _ | refine Plus.alloc ?_ _ | refine Plus.plus ?_ _ | refine Plus.drew ?_ | refine Plus.drewN ?_ _))
        · have HB1 := Lib.hid hb1
          have hyi : r = infN := by simpa using hb1
          clear hb1
          have HR : Hid (rNum (45 :: r) = ⟨4, 0, true⟩) := Lib.hid (by unfold rNum; rw [if_neg (by simp), show dropS (45 :: r) = r from by unfold dropS; simp, if_pos hyi, show sgB (45 :: r) = true from rfl]; rfl)
          clear hyi
          go_wp2_with fail
          (with_reducible refine (refUnits_n HB1 _ (HDr.out.plus (by repeat' (first | exact Plus.refl _ | refine Plus.alloc ?_ _ | refine Plus.plus ?_ _ | refine Plus.drew ?_ | refine Plus.drewN ?_ _))) (a9.out.plus (by repeat' (first | exact Plus.refl _ | refine Plus.alloc ?_ _ | refine Plus.plus ?_ _ | refine Plus.drew ?_ | refine Plus.drewN ?_ _)))).mono ?_)
          rintro e w1 ⟨rfl, ⟨x3, rfl⟩⟩
          clear a9
          have HN : Hid ((negR 3 0).k = 4 ∧ (negR 3 0).n = 0) := Lib.hid (by decide)
          go_wp2_with fail
          (with_reducible refine (rneg_n HN _).mono ?_)
          rintro e w1 ⟨rfl, ⟨x4, rfl⟩⟩
          go_wp2_with fail
          go_returns
          exact nup HM HR rfl (by repeat' (first | exact Plus.refl _ | refine Plus.alloc ?_ _ | refine Plus.plus ?_ _ | refine Plus.drew ?_ | refine Plus.drewN ?_ _))
    · by_cases h43 : v = 43
      · subst h43
        by_cases hd1 : d = 1
        · subst hd1
          obtain rfl : r = [] := List.eq_nil_of_length_eq_zero (by omega)
          replace HT : Hid (Ar .u16 65536 w (some ⟨g, o, none⟩) [43] 1 1) := HT
          have HDr : Hid (Ar .u16 65536 w (some ⟨g, o, none⟩) [] 0 0) := Lib.hid ⟨Rd.nil, rfl, by omega, by omega, fun x hx => by simp at hx⟩
          go_wp2_with fail
          (with_reducible refine (rNaN_c _).mono ?_)
          rintro e w1 ⟨rfl, ⟨x1, rfl⟩⟩
          go_wp2_with fail
          (with_reducible refine (refAscii_n _ (by decide) infN 8 HI _).mono ?_)
          rintro e w1 ⟨A9, c9, rfl, a9, ⟨x2, rfl⟩⟩
          replace a9 := Lib.hid a9
          obtain ⟨b1, hb1⟩ : ∃ b, decide (([] : List Nat) = infN) = b := ⟨_, rfl⟩
          cases b1
          · have HB1 := Lib.hid hb1
            have hni : ([] : List Nat) ≠ infN := by simpa using hb1
            clear hb1
            go_wp2_with fail
            (with_reducible refine (refUnits_n HB1 _ (HDr.out.plus (by repeat' (first | exact Plus.refl _ | refine Plus.alloc ?_ _ | refine Plus.plus ?_ _ | refine Plus.drew ?_ | refine Plus.drewN ?_ _))) (a9.out.plus (by repeat' (first | exact Plus.refl _ | refine Plus.alloc ?_ _ | refine Plus.plus ?_ _ | refine Plus.drew ?_ | refine Plus.drewN ?_ _)))).mono ?_)
            rintro e w1 ⟨rfl, ⟨x3, rfl⟩⟩
            clear a9
            obtain ⟨b2, hb2⟩ : ∃ b, dgs (([] : List Nat)) = b := ⟨_, rfl⟩
            have HB2 := Lib.hid hb2
            cases b2
            · obtain ⟨b3, hb3⟩ : ∃ b, numR [43] = b := ⟨_, rfl⟩
              have HB3 := Lib.hid hb3
              have HR : Hid (rNum [43] = ⟨2, 0, !b3⟩) := Lib.hid (by unfold rNum; rw [if_neg (by simp), show dropS [43] = [] from by unfold dropS; simp, if_neg hni, hb2, hb3]; rfl)
              clear hb2 hb3 hni
              go_wp2_with fail
              (with_reducible refine (rDigits_n HB2 _ (HDr.out.plus (by repeat' (first | exact Plus.refl _ | refine Plus.alloc ?_ _ | refine Plus.plus ?_ _ | refine Plus.drew ?_ | refine Plus.drewN ?_ _)))).mono ?_)
              rintro e w1 ⟨rfl, rfl⟩
              go_wp2_with fail
              go_region_with (go_at_call 31; (with_reducible refine (rNumeric_n HB3 _ (HT.out.plus (by repeat' (first | exact Plus.refl _ | refine Plus.alloc ?_ _ | refine Plus.plus ?_ _ | refine Plus.drew ?_ | refine Plus.drewN ?_ _)))).mono ?_); rintro e w1 ⟨rfl, rfl⟩)
              all_goals
                go_wp2_with fail
                go_returns
                exact nup HM HR rfl (by repeat' (first | exact Plus.refl _ | refine Plus.alloc ?_ _ | refine Plus.plus ?_ _ | refine Plus.drew ?_ | refine Plus.drewN ?_ _))
            · have hall : (([] : List Nat)).all dgB = true := by unfold dgs at hb2; rw [Bool.and_eq_true] at hb2; exact hb2.1
              obtain ⟨z, hz⟩ : ∃ z : Nat, vd (([] : List Nat)) = z := ⟨_, rfl⟩
              go_wp2_with fail
              (with_reducible refine (rDigits_n HB2 _ (HDr.out.plus (by repeat' (first | exact Plus.refl _ | refine Plus.alloc ?_ _ | refine Plus.plus ?_ _ | refine Plus.drew ?_ | refine Plus.drewN ?_ _)))).mono ?_)
              rintro e w1 ⟨rfl, rfl⟩
              by_cases hs : z ≤ 9007199254740991
              · have HW : Hid ((([] : List Nat)).all dgB = true ∧ whI (vd (([] : List Nat))) = (z : Int)) := Lib.hid ⟨hall, by unfold whI; rw [hz, if_pos hs]⟩
                have HR : Hid (rNum [43] = ⟨0, z, true⟩) := Lib.hid (by unfold rNum; rw [if_neg (by simp), show dropS [43] = [] from by unfold dropS; simp, if_neg hni, hb2, if_pos rfl, hz, if_pos hs, show sgB [43] = false from rfl]; rfl)
                clear hb2 hni hall hz
                go_wp2_with fail
                (with_reducible refine (rwhole_n HW _ (HDr.out.plus (by repeat' (first | exact Plus.refl _ | refine Plus.alloc ?_ _ | refine Plus.plus ?_ _ | refine Plus.drew ?_ | refine Plus.drewN ?_ _)))).mono ?_)
                rintro e w1 ⟨rfl, rfl⟩
                have d1 : decide ((z : Int) < 0) = false := by simp
                go_wp2_with fail
                go_returns
                exact nup HM HR rfl (by repeat' (first | exact Plus.refl _ | refine Plus.alloc ?_ _ | refine Plus.plus ?_ _ | refine Plus.drew ?_ | refine Plus.drewN ?_ _))
              · have HW : Hid ((([] : List Nat)).all dgB = true ∧ whI (vd (([] : List Nat))) = -1) := Lib.hid ⟨hall, by unfold whI; rw [hz, if_neg hs]⟩
                have HR : Hid (rNum [43] = ⟨2, 0, false⟩) := Lib.hid (by unfold rNum; rw [if_neg (by simp), show dropS [43] = [] from by unfold dropS; simp, if_neg hni, hb2, if_pos rfl, hz, if_neg hs])
                clear hb2 hni hall hz
                go_wp2_with fail
                (with_reducible refine (rwhole_n HW _ (HDr.out.plus (by repeat' (first | exact Plus.refl _ | refine Plus.alloc ?_ _ | refine Plus.plus ?_ _ | refine Plus.drew ?_ | refine Plus.drewN ?_ _)))).mono ?_)
                rintro e w1 ⟨rfl, rfl⟩
                go_wp2_with fail
                go_returns
                exact nup HM HR rfl (by repeat' (first | exact Plus.refl _ | refine Plus.alloc ?_ _ | refine Plus.plus ?_ _ | refine Plus.drew ?_ | refine Plus.drewN ?_ _))
          · have HB1 := Lib.hid hb1
            have hyi : ([] : List Nat) = infN := by simpa using hb1
            clear hb1
            have HR : Hid (rNum [43] = ⟨3, 0, true⟩) := Lib.hid (by unfold rNum; rw [if_neg (by simp), show dropS [43] = [] from by unfold dropS; simp, if_pos hyi, show sgB [43] = false from rfl]; rfl)
            clear hyi
            go_wp2_with fail
            (with_reducible refine (refUnits_n HB1 _ (HDr.out.plus (by repeat' (first | exact Plus.refl _ | refine Plus.alloc ?_ _ | refine Plus.plus ?_ _ | refine Plus.drew ?_ | refine Plus.drewN ?_ _))) (a9.out.plus (by repeat' (first | exact Plus.refl _ | refine Plus.alloc ?_ _ | refine Plus.plus ?_ _ | refine Plus.drew ?_ | refine Plus.drewN ?_ _)))).mono ?_)
            rintro e w1 ⟨rfl, ⟨x3, rfl⟩⟩
            clear a9
            go_wp2_with fail
            go_returns
            exact nup HM HR rfl (by repeat' (first | exact Plus.refl _ | refine Plus.alloc ?_ _ | refine Plus.plus ?_ _ | refine Plus.drew ?_ | refine Plus.drewN ?_ _))
        · have HDr : Hid (Ar .u16 65536 w (some ⟨g, o + 1, none⟩) r r.length (d - 1)) := Lib.hid (by
            have e := ar_mid (a := 1) (j := r.length + 1) HT.out (by omega) (by omega)
            have e2 : ((43 :: r).drop 1).take (r.length + 1 - 1) = r := by simp
            rw [e2, show r.length + 1 - 1 = r.length by omega] at e
            exact e)
          go_wp2_with fail
          (with_reducible refine (rNaN_c _).mono ?_)
          rintro e w1 ⟨rfl, ⟨x1, rfl⟩⟩
          go_wp2_with fail
          (with_reducible refine (refAscii_n _ (by decide) infN 8 HI _).mono ?_)
          rintro e w1 ⟨A9, c9, rfl, a9, ⟨x2, rfl⟩⟩
          replace a9 := Lib.hid a9
          obtain ⟨b1, hb1⟩ : ∃ b, decide (r = infN) = b := ⟨_, rfl⟩
          cases b1
          · have HB1 := Lib.hid hb1
            have hni : r ≠ infN := by simpa using hb1
            clear hb1
            go_wp2_with fail
            (with_reducible refine (refUnits_n HB1 _ (HDr.out.plus (by repeat' (first | exact Plus.refl _ | refine Plus.alloc ?_ _ | refine Plus.plus ?_ _ | refine Plus.drew ?_ | refine Plus.drewN ?_ _))) (a9.out.plus (by repeat' (first | exact Plus.refl _ | refine Plus.alloc ?_ _ | refine Plus.plus ?_ _ | refine Plus.drew ?_ | refine Plus.drewN ?_ _)))).mono ?_)
            rintro e w1 ⟨rfl, ⟨x3, rfl⟩⟩
            clear a9
            obtain ⟨b2, hb2⟩ : ∃ b, dgs (r) = b := ⟨_, rfl⟩
            have HB2 := Lib.hid hb2
            cases b2
            · obtain ⟨b3, hb3⟩ : ∃ b, numR (43 :: r) = b := ⟨_, rfl⟩
              have HB3 := Lib.hid hb3
              have HR : Hid (rNum (43 :: r) = ⟨2, 0, !b3⟩) := Lib.hid (by unfold rNum; rw [if_neg (by simp), show dropS (43 :: r) = r from by unfold dropS; simp, if_neg hni, hb2, hb3]; rfl)
              clear hb2 hb3 hni
              go_wp2_with fail
              (with_reducible refine (rDigits_n HB2 _ (HDr.out.plus (by repeat' (first | exact Plus.refl _ | refine Plus.alloc ?_ _ | refine Plus.plus ?_ _ | refine Plus.drew ?_ | refine Plus.drewN ?_ _)))).mono ?_)
              rintro e w1 ⟨rfl, rfl⟩
              go_wp2_with fail
              go_region_with (go_at_call 31; (with_reducible refine (rNumeric_n HB3 _ (HT.out.plus (by repeat' (first | exact Plus.refl _ | refine Plus.alloc ?_ _ | refine Plus.plus ?_ _ | refine Plus.drew ?_ | refine Plus.drewN ?_ _)))).mono ?_); rintro e w1 ⟨rfl, rfl⟩)
              all_goals
                go_wp2_with fail
                go_returns
                exact nup HM HR rfl (by repeat' (first | exact Plus.refl _ | refine Plus.alloc ?_ _ | refine Plus.plus ?_ _ | refine Plus.drew ?_ | refine Plus.drewN ?_ _))
            · have hall : (r).all dgB = true := by unfold dgs at hb2; rw [Bool.and_eq_true] at hb2; exact hb2.1
              obtain ⟨z, hz⟩ : ∃ z : Nat, vd (r) = z := ⟨_, rfl⟩
              go_wp2_with fail
              (with_reducible refine (rDigits_n HB2 _ (HDr.out.plus (by repeat' (first | exact Plus.refl _ | refine Plus.alloc ?_ _ | refine Plus.plus ?_ _ | refine Plus.drew ?_ | refine Plus.drewN ?_ _)))).mono ?_)
              rintro e w1 ⟨rfl, rfl⟩
              by_cases hs : z ≤ 9007199254740991
              · have HW : Hid ((r).all dgB = true ∧ whI (vd (r)) = (z : Int)) := Lib.hid ⟨hall, by unfold whI; rw [hz, if_pos hs]⟩
                have HR : Hid (rNum (43 :: r) = ⟨0, z, true⟩) := Lib.hid (by unfold rNum; rw [if_neg (by simp), show dropS (43 :: r) = r from by unfold dropS; simp, if_neg hni, hb2, if_pos rfl, hz, if_pos hs, show sgB (43 :: r) = false from rfl]; rfl)
                clear hb2 hni hall hz
                go_wp2_with fail
                (with_reducible refine (rwhole_n HW _ (HDr.out.plus (by repeat' (first | exact Plus.refl _ | refine Plus.alloc ?_ _ | refine Plus.plus ?_ _ | refine Plus.drew ?_ | refine Plus.drewN ?_ _)))).mono ?_)
                rintro e w1 ⟨rfl, rfl⟩
                have d1 : decide ((z : Int) < 0) = false := by simp
                go_wp2_with fail
                go_returns
                exact nup HM HR rfl (by repeat' (first | exact Plus.refl _ | refine Plus.alloc ?_ _ | refine Plus.plus ?_ _ | refine Plus.drew ?_ | refine Plus.drewN ?_ _))
              · have HW : Hid ((r).all dgB = true ∧ whI (vd (r)) = -1) := Lib.hid ⟨hall, by unfold whI; rw [hz, if_neg hs]⟩
                have HR : Hid (rNum (43 :: r) = ⟨2, 0, false⟩) := Lib.hid (by unfold rNum; rw [if_neg (by simp), show dropS (43 :: r) = r from by unfold dropS; simp, if_neg hni, hb2, if_pos rfl, hz, if_neg hs])
                clear hb2 hni hall hz
                go_wp2_with fail
                (with_reducible refine (rwhole_n HW _ (HDr.out.plus (by repeat' (first | exact Plus.refl _ | refine Plus.alloc ?_ _ | refine Plus.plus ?_ _ | refine Plus.drew ?_ | refine Plus.drewN ?_ _)))).mono ?_)
                rintro e w1 ⟨rfl, rfl⟩
                go_wp2_with fail
                go_returns
                exact nup HM HR rfl (by repeat' (first | exact Plus.refl _ | refine Plus.alloc ?_ _ | refine Plus.plus ?_ _ | refine Plus.drew ?_ | refine Plus.drewN ?_ _))
          · have HB1 := Lib.hid hb1
            have hyi : r = infN := by simpa using hb1
            clear hb1
            have HR : Hid (rNum (43 :: r) = ⟨3, 0, true⟩) := Lib.hid (by unfold rNum; rw [if_neg (by simp), show dropS (43 :: r) = r from by unfold dropS; simp, if_pos hyi, show sgB (43 :: r) = false from rfl]; rfl)
            clear hyi
            go_wp2_with fail
            (with_reducible refine (refUnits_n HB1 _ (HDr.out.plus (by repeat' (first | exact Plus.refl _ | refine Plus.alloc ?_ _ | refine Plus.plus ?_ _ | refine Plus.drew ?_ | refine Plus.drewN ?_ _))) (a9.out.plus (by repeat' (first | exact Plus.refl _ | refine Plus.alloc ?_ _ | refine Plus.plus ?_ _ | refine Plus.drew ?_ | refine Plus.drewN ?_ _)))).mono ?_)
            rintro e w1 ⟨rfl, ⟨x3, rfl⟩⟩
            clear a9
            go_wp2_with fail
            go_returns
            exact nup HM HR rfl (by repeat' (first | exact Plus.refl _ | refine Plus.alloc ?_ _ | refine Plus.plus ?_ _ | refine Plus.drew ?_ | refine Plus.drewN ?_ _))
      · have c1 : ((v : Int) == 45) = false := by simp; omega
        have c2 : ((v : Int) == 43) = false := by simp; omega
        have HDr := HT
        have hds : dropS (v :: r) = v :: r := by unfold dropS; simp [h45, h43]
        have hsg : sgB (v :: r) = false := by unfold sgB; simp [h45]
        have HDS := Lib.hid (And.intro hds hsg)
        clear hds hsg h45 h43
        go_wp2_with fail
        (with_reducible refine (rNaN_c _).mono ?_)
        rintro e w1 ⟨rfl, ⟨x1, rfl⟩⟩
        go_wp2_with fail
        (with_reducible refine (refAscii_n _ (by decide) infN 8 HI _).mono ?_)
        rintro e w1 ⟨A9, c9, rfl, a9, ⟨x2, rfl⟩⟩
        replace a9 := Lib.hid a9
        obtain ⟨b1, hb1⟩ : ∃ b, decide ((v :: r) = infN) = b := ⟨_, rfl⟩
        cases b1
        · have HB1 := Lib.hid hb1
          have hni : (v :: r) ≠ infN := by simpa using hb1
          clear hb1
          go_wp2_with fail
          (with_reducible refine (refUnits_n HB1 _ (HDr.out.plus (by repeat' (first | exact Plus.refl _ | refine Plus.alloc ?_ _ | refine Plus.plus ?_ _ | refine Plus.drew ?_ | refine Plus.drewN ?_ _))) (a9.out.plus (by repeat' (first | exact Plus.refl _ | refine Plus.alloc ?_ _ | refine Plus.plus ?_ _ | refine Plus.drew ?_ | refine Plus.drewN ?_ _)))).mono ?_)
          rintro e w1 ⟨rfl, ⟨x3, rfl⟩⟩
          clear a9
          obtain ⟨b2, hb2⟩ : ∃ b, dgs ((v :: r)) = b := ⟨_, rfl⟩
          have HB2 := Lib.hid hb2
          cases b2
          · obtain ⟨b3, hb3⟩ : ∃ b, numR (v :: r) = b := ⟨_, rfl⟩
            have HB3 := Lib.hid hb3
            have HR : Hid (rNum (v :: r) = ⟨2, 0, !b3⟩) := Lib.hid (by unfold rNum; rw [if_neg (by simp), HDS.out.1, if_neg hni, hb2, hb3]; rfl)
            clear hb2 hb3 hni
            go_wp2_with fail
            (with_reducible refine (rDigits_n HB2 _ (HDr.out.plus (by repeat' (first | exact Plus.refl _ | refine Plus.alloc ?_ _ | refine Plus.plus ?_ _ | refine Plus.drew ?_ | refine Plus.drewN ?_ _)))).mono ?_)
            rintro e w1 ⟨rfl, rfl⟩
            go_wp2_with fail
            go_region_with (go_at_call 31; (with_reducible refine (rNumeric_n HB3 _ (HT.out.plus (by repeat' (first | exact Plus.refl _ | refine Plus.alloc ?_ _ | refine Plus.plus ?_ _ | refine Plus.drew ?_ | refine Plus.drewN ?_ _)))).mono ?_); rintro e w1 ⟨rfl, rfl⟩)
            all_goals
              go_wp2_with fail
              go_returns
              exact nup HM HR rfl (by repeat' (first | exact Plus.refl _ | refine Plus.alloc ?_ _ | refine Plus.plus ?_ _ | refine Plus.drew ?_ | refine Plus.drewN ?_ _))
          · have hall : ((v :: r)).all dgB = true := by unfold dgs at hb2; rw [Bool.and_eq_true] at hb2; exact hb2.1
            obtain ⟨z, hz⟩ : ∃ z : Nat, vd ((v :: r)) = z := ⟨_, rfl⟩
            go_wp2_with fail
            (with_reducible refine (rDigits_n HB2 _ (HDr.out.plus (by repeat' (first | exact Plus.refl _ | refine Plus.alloc ?_ _ | refine Plus.plus ?_ _ | refine Plus.drew ?_ | refine Plus.drewN ?_ _)))).mono ?_)
            rintro e w1 ⟨rfl, rfl⟩
            by_cases hs : z ≤ 9007199254740991
            · have HW : Hid (((v :: r)).all dgB = true ∧ whI (vd ((v :: r))) = (z : Int)) := Lib.hid ⟨hall, by unfold whI; rw [hz, if_pos hs]⟩
              have HR : Hid (rNum (v :: r) = ⟨0, z, true⟩) := Lib.hid (by unfold rNum; rw [if_neg (by simp), HDS.out.1, if_neg hni, hb2, if_pos rfl, hz, if_pos hs, HDS.out.2]; rfl)
              clear hb2 hni hall hz
              go_wp2_with fail
              (with_reducible refine (rwhole_n HW _ (HDr.out.plus (by repeat' (first | exact Plus.refl _ | refine Plus.alloc ?_ _ | refine Plus.plus ?_ _ | refine Plus.drew ?_ | refine Plus.drewN ?_ _)))).mono ?_)
              rintro e w1 ⟨rfl, rfl⟩
              have d1 : decide ((z : Int) < 0) = false := by simp
              go_wp2_with fail
              go_returns
              exact nup HM HR rfl (by repeat' (first | exact Plus.refl _ | refine Plus.alloc ?_ _ | refine Plus.plus ?_ _ | refine Plus.drew ?_ | refine Plus.drewN ?_ _))
            · have HW : Hid (((v :: r)).all dgB = true ∧ whI (vd ((v :: r))) = -1) := Lib.hid ⟨hall, by unfold whI; rw [hz, if_neg hs]⟩
              have HR : Hid (rNum (v :: r) = ⟨2, 0, false⟩) := Lib.hid (by unfold rNum; rw [if_neg (by simp), HDS.out.1, if_neg hni, hb2, if_pos rfl, hz, if_neg hs])
              clear hb2 hni hall hz
              go_wp2_with fail
              (with_reducible refine (rwhole_n HW _ (HDr.out.plus (by repeat' (first | exact Plus.refl _ | refine Plus.alloc ?_ _ | refine Plus.plus ?_ _ | refine Plus.drew ?_ | refine Plus.drewN ?_ _)))).mono ?_)
              rintro e w1 ⟨rfl, rfl⟩
              go_wp2_with fail
              go_returns
              exact nup HM HR rfl (by repeat' (first | exact Plus.refl _ | refine Plus.alloc ?_ _ | refine Plus.plus ?_ _ | refine Plus.drew ?_ | refine Plus.drewN ?_ _))
        · have HB1 := Lib.hid hb1
          have hyi : (v :: r) = infN := by simpa using hb1
          clear hb1
          have HR : Hid (rNum (v :: r) = ⟨3, 0, true⟩) := Lib.hid (by unfold rNum; rw [if_neg (by simp), HDS.out.1, if_pos hyi, HDS.out.2]; rfl)
          clear hyi
          go_wp2_with fail
          (with_reducible refine (refUnits_n HB1 _ (HDr.out.plus (by repeat' (first | exact Plus.refl _ | refine Plus.alloc ?_ _ | refine Plus.plus ?_ _ | refine Plus.drew ?_ | refine Plus.drewN ?_ _))) (a9.out.plus (by repeat' (first | exact Plus.refl _ | refine Plus.alloc ?_ _ | refine Plus.plus ?_ _ | refine Plus.drew ?_ | refine Plus.drewN ?_ _)))).mono ?_)
          rintro e w1 ⟨rfl, ⟨x3, rfl⟩⟩
          clear a9
          go_wp2_with fail
          go_returns
          exact nup HM HR rfl (by repeat' (first | exact Plus.refl _ | refine Plus.alloc ?_ _ | refine Plus.plus ?_ _ | refine Plus.drew ?_ | refine Plus.drewN ?_ _))
end Go.Proofs.YtdckonlipinblaaGreatDoor
