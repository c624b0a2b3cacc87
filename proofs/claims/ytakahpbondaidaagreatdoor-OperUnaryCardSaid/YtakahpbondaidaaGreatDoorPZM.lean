/- The document's numbers turned. -/
import Derived.IntWalk
import Derived.Test.YtakahpbondaidaaGreatDoorPZK
import Derived.Test.YtakahpbondaidaaGreatDoorPZL
namespace Go.Proofs.YtakahpbondaidaaGreatDoor
open Go.RowKit

theorem rsigned_c (b c : Bool) (w : World) : Calls Tryz.prog 150 #[.bool b, .bool c] w fun e w' => e = .returned (.agg #[.int .i64 (if b = true then infK c else zeroK c), .int .i64 0]) ∧ Plus w w' := by
  cases b <;> cases c
  all_goals go_enter Tryz.func150, Tryz.ntmps150
  all_goals go_wp2_with ((go_at_call 98; refine (kind_c _ _).mono ?_; rintro e w1 ⟨rfl, ⟨x1, rfl⟩⟩))
  all_goals go_returns
  all_goals refine ⟨rfl, ?_⟩
  all_goals (repeat' (first | exact Plus.refl _ | refine Plus.alloc ?_ _ | refine Plus.plus ?_ _ | refine Plus.drew ?_ | refine Plus.drewN ?_ _))
set_option maxHeartbeats 2000000 in
theorem rneg_h {k n p q : Int} (h1 : Hid (vk k n = p ∧ vn k n = q)) (hp : Hid (IsV p q)) (w : World) :
    Calls Tryz.prog 90 #[.agg #[.int .i64 k, .int .i64 n]] w fun e w' => e = .returned (.agg #[.int .i64 (negS p q).k, .int .i64 (negS p q).n]) ∧ Plus w w' := by
  have g1 := hp.out
  clear hp
  rcases isV6 g1 with ⟨rfl, rfl⟩ | ⟨rfl, hq0, hq1, hq2⟩ | ⟨rfl, rfl⟩ | ⟨rfl, rfl⟩ | ⟨rfl, rfl⟩ | ⟨rfl, rfl⟩
  all_goals clear g1
  all_goals first | (have hqb := beq_f hq0) | skip
  all_goals go_enter Tryz.func90, Tryz.ntmps90
  all_goals go_wp2_with (first | (go_at_call 122; refine (rgood_h h1 _).mono ?_; rintro e w1 ⟨rfl, ⟨x0, rfl⟩⟩) | (go_at_call 135; refine (rnan_c _ _ _).mono ?_; rintro e w1 ⟨rfl, ⟨x1, rfl⟩⟩) | (go_at_call 148; refine (rinf_c _ _ _).mono ?_; rintro e w1 ⟨rfl, ⟨x1, rfl⟩⟩) | (go_at_call 149; refine (rnought_c _ _ _).mono ?_; rintro e w1 ⟨rfl, ⟨x1, rfl⟩⟩))
  all_goals try (go_region_with (first | (go_at_call 148; refine (rinf_c _ _ _).mono ?_; rintro e w1 ⟨rfl, ⟨x1, rfl⟩⟩) | (go_at_call 151; refine (rbelow_c _ _ _).mono ?_; rintro e w1 ⟨rfl, ⟨x1, rfl⟩⟩) | (go_at_call 150; refine (rsigned_c _ _ _).mono ?_; rintro e w1 ⟨rfl, ⟨x1, rfl⟩⟩)))
  all_goals go_wp2_with fail
  all_goals go_returns
  all_goals refine ⟨?_, ?_⟩
  all_goals first | (simp [negS, zeroK, infK, negB, *]; done) | (with_reducible (repeat' (first | exact Plus.refl _ | refine Plus.alloc ?_ _ | refine Plus.plus ?_ _ | refine Plus.drew ?_ | refine Plus.drewN ?_ _)); done) | (simp_all [negS, zeroK, infK, negB]; done) | skip
  all_goals go_show

theorem rneg_c (k n : Int) (w : World) : Calls Tryz.prog 90 #[.agg #[.int .i64 k, .int .i64 n]] w fun e w' => e = .returned (.agg #[.int .i64 (negR k n).k, .int .i64 (negR k n).n]) ∧ Plus w w' :=
  rneg_h ⟨rfl, rfl⟩ (isV_v k n) w


end Go.Proofs.YtakahpbondaidaaGreatDoor
namespace Go.Proofs.YtakahpbondaidaaGreatDoor
open Go.RowKit

theorem refUnits_n {A C : Option Addr} {xs ys : List Nat} {n c m d : Nat} {b : Bool} (h : Hid (decide (xs = ys) = b)) (w : World) (ha : Ar .u16 65536 w A xs n c) (hb : Ar .u16 65536 w C ys m d) :
    Calls Tryz.prog 23 #[.slice A n c, .slice C m d] w fun e w' => e = .returned (.bool b) ∧ Plus w w' := by
  have e := refUnits_c A C xs ys n c m d w ha hb
  rw [h.out] at e
  exact e
theorem rDigits_n {A : Option Addr} {xs : List Nat} {n c : Nat} {b : Bool} (h : Hid (dgs xs = b)) (w : World) (ha : Ar .u16 65536 w A xs n c) : Calls Tryz.prog 99 #[.slice A n c] w fun e w' => e = .returned (.bool b) ∧ w = w' := by
  have e := rDigits_c A xs n c w ha
  rw [h.out] at e
  exact e
theorem rNumeric_n {A : Option Addr} {xs : List Nat} {n c : Nat} {b : Bool} (h : Hid (numR xs = b)) (w : World) (ha : Ar .u16 65536 w A xs n c) : Calls Tryz.prog 101 #[.slice A n c, .string ⟨#[120, 88, 111, 79, 46, 43, 45, 95]⟩] w fun e w' => e = .returned (.bool b) ∧ w = w' := by
  have e := rNumeric_c A xs n c w ha
  rw [h.out] at e
  exact e
theorem rwhole_n {A : Option Addr} {xs : List Nat} {n c : Nat} {z : Int} (h : Hid (xs.all dgB = true ∧ whI (vd xs) = z)) (w : World) (ha : Ar .u16 65536 w A xs n c) : Calls Tryz.prog 100 #[.slice A n c] w fun e w' => e = .returned (.int .i64 z) ∧ w = w' := by
  have e := rwhole_c A xs n c w ha h.out.1
  rw [h.out.2] at e
  exact e
theorem rneg_n {k n p q : Int} (h : Hid ((negR k n).k = p ∧ (negR k n).n = q)) (w : World) : Calls Tryz.prog 90 #[.agg #[.int .i64 k, .int .i64 n]] w fun e w' => e = .returned (.agg #[.int .i64 p, .int .i64 q]) ∧ Plus w w' := by
  have e := rneg_c k n w
  rw [h.out.1, h.out.2] at e
  exact e
def infN : List Nat := [73, 110, 102, 105, 110, 105, 116, 121]
end Go.Proofs.YtakahpbondaidaaGreatDoor
namespace Go.Proofs.YtakahpbondaidaaGreatDoor
open Go.RowKit

def sgB (t : List Nat) : Bool := decide (t.getD 0 0 = 45)
def dropS (t : List Nat) : List Nat := if t.getD 0 0 = 45 ∨ t.getD 0 0 = 43 then t.drop 1 else t
/-- What Number tells of a text without outer blanks. -/
def rNum (t : List Nat) : Ans :=
  if t = [] then ⟨0, 0, true⟩
  else if dropS t = infN then ⟨if sgB t then 4 else 3, 0, true⟩
  else if dgs (dropS t) then (if vd (dropS t) ≤ 9007199254740991 then ⟨sgnK (sgB t) 0 (vd (dropS t)), sgnN (sgB t) 0 (vd (dropS t)), true⟩ else ⟨2, 0, false⟩)
  else ⟨2, 0, !numR t⟩
def NuP (xs : List Nat) (w : World) (e : Ending) (w' : World) : Prop := ∃ mid, TrimOf xs mid ∧ e = .returned (.tuple #[.agg #[.int .i64 (rNum mid).k, .int .i64 (rNum mid).n], .bool (rNum mid).ok]) ∧ Plus w w'
theorem nup {xs mid : List Nat} {w w' : World} {e : Ending} {k n : Int} {b : Bool} (h : Hid (TrimOf xs mid)) (hr : Hid (rNum mid = ⟨k, n, b⟩)) (he : e = .returned (.tuple #[.agg #[.int .i64 k, .int .i64 n], .bool b])) (hp : Plus w w') : NuP xs w e w' := ⟨mid, h.out, by rw [hr.out]; exact he, hp⟩
theorem infA : nats ⟨#[73, 110, 102, 105, 110, 105, 116, 121]⟩ = infN ∧ 8 = infN.length := by constructor <;> decide
set_option maxRecDepth 100000 in
set_option maxHeartbeats 8000000 in
theorem rNumber_c (A : Option Addr) (xs : List Nat) (n c : Nat) (w : World) (ha : Ar .u16 65536 w A xs n c) :
    Calls Tryz.prog 47 #[.slice A n c] w (NuP xs w) := by
  have HA := Lib.hid ha
  have HI := Lib.hid infA
  clear ha
  go_enter Tryz.func47, Tryz.ntmps47
  go_wp2_with fail
  refine (rTrim_c _ _ _ _ _ (HA.out.plus (by repeat' (first | exact Plus.refl _ | refine Plus.alloc ?_ _ | refine Plus.plus ?_ _ | refine Plus.drew ?_ | refine Plus.drewN ?_ _)))).mono ?_
  rintro e w1 ⟨C, m, d, mid, rfl, rfl, hM, hall⟩
  have ht := hall w HA.out
  have HM := Lib.hid hM
  clear hall hM
  obtain rfl := ht.len
  have HT := Lib.hid ht
  obtain ⟨hrd, _, hcap, hmax, hbd⟩ := ht
  cases mid with
  | nil =>
    clear hrd hbd
    have HR : Hid (rNum [] = ⟨0, 0, true⟩) := Lib.hid rfl
    go_wp2_with fail
    go_returns
    exact nup HM HR rfl (by repeat' (first | exact Plus.refl _ | refine Plus.alloc ?_ _ | refine Plus.plus ?_ _ | refine Plus.drew ?_ | refine Plus.drewN ?_ _))
  | cons v r =>
    obtain ⟨g, o, rfl, hg, hat⟩ := hrd (by simp)
    have hcell := hat 0 (by simp)
    have hadd := add_addr g o 0
    simp only [Nat.add_zero, List.getD_cons_zero] at hcell hadd
    haveI : Old g w := ⟨hg⟩
    have hm0 : ((r.length + 1 : Nat) : Int) = (r.length : Int) + 1 := by omega
    simp only [List.length_cons] at hcap HT ⊢
    clear hrd hbd hat
    by_cases h45 : v = 45
    · subst h45
      by_cases hd1 : d = 1
      · subst hd1
        obtain rfl : r = [] := List.eq_nil_of_length_eq_zero (by omega)
        replace HT : Hid (Ar .u16 65536 w (some ⟨g, o, none⟩) [45] 1 1) := HT
        have HDr : Hid (Ar .u16 65536 w (some ⟨g, o, none⟩) [] 0 0) := Lib.hid ⟨Rd.nil, rfl, by omega, by omega, fun x hx => by simp at hx⟩
        go_wp2_with fail
        (with_reducible refine (rNaN_c _).mono ?_)
        rintro e w1 ⟨rfl, ⟨x1, rfl⟩⟩
        go_wp2_with fail
        (with_reducible refine (refAscii_n _ (by decide) infN 8 HI _).mono ?_)
        rintro e w1 ⟨A9, c9, rfl, a9, ⟨x2, rfl⟩⟩
        replace a9 := Lib.hid a9
        obtain ⟨b1, hb1⟩ : ∃ b, decide (([] : List Nat) = infN) = b := ⟨_, rfl⟩
        cases b1
        · have HB1 := Lib.hid hb1
          have hni : ([] : List Nat) ≠ infN := by simpa using hb1
          clear hb1
          go_wp2_with fail
          (with_reducible refine (refUnits_n HB1 _ (HDr.out.plus (by repeat' (first | exact Plus.refl _ | refine Plus.alloc ?_ _ | refine Plus.plus ?_ _ | refine Plus.drew ?_ | refine Plus.drewN ?_ _))) (a9.out.plus (by repeat' (first | exact Plus.refl _ | refine Plus.alloc ?_ _ | refine Plus.plus ?_ _ | refine Plus.drew ?_ | refine Plus.drewN ?_ _)))).mono ?_)
          rintro e w1 ⟨rfl, ⟨x3, rfl⟩⟩
          clear a9
          obtain ⟨b2, hb2⟩ : ∃ b, dgs (([] : List Nat)) = b := ⟨_, rfl⟩
          have HB2 := Lib.hid hb2
          cases b2
          · obtain ⟨b3, hb3⟩ : ∃ b, numR [45] = b := ⟨_, rfl⟩
            have HB3 := Lib.hid hb3
            have HR : Hid (rNum [45] = ⟨2, 0, !b3⟩) := Lib.hid (by unfold rNum; rw [if_neg (by simp), show dropS [45] = [] from by unfold dropS; simp, if_neg hni, hb2, hb3]; rfl)
            clear hb2 hb3 hni
            go_wp2_with fail
            (with_reducible refine (rDigits_n HB2 _ (HDr.out.plus (by repeat' (first | exact Plus.refl _ | refine Plus.alloc ?_ _ | refine Plus.plus ?_ _ | refine Plus.drew ?_ | refine Plus.drewN ?_ _)))).mono ?_)
            rintro e w1 ⟨rfl, rfl⟩
            go_wp2_with fail
            go_region_with (go_at_call 101; (with_reducible refine (rNumeric_n HB3 _ (HT.out.plus (by repeat' (first | exact Plus.refl _ | refine Plus.alloc ?_ _ | refine Plus.plus ?_ _ | refine Plus.drew ?_ | refine Plus.drewN ?_ _)))).mono ?_); rintro e w1 ⟨rfl, rfl⟩)
            all_goals
              go_wp2_with fail
              go_returns
              exact nup HM HR rfl (by repeat' (first | exact Plus.refl _ | refine Plus.alloc ?_ _ | refine Plus.plus ?_ _ | refine Plus.drew ?_ | refine Plus.drewN ?_ _))
          · have hall : (([] : List Nat)).all dgB = true := by unfold dgs at hb2; rw [Bool.and_eq_true] at hb2; exact hb2.1
            obtain ⟨z, hz⟩ : ∃ z : Nat, vd (([] : List Nat)) = z := ⟨_, rfl⟩
            go_wp2_with fail
            (with_reducible refine (rDigits_n HB2 _ (HDr.out.plus (by repeat' (first | exact Plus.refl _ | refine Plus.alloc ?_ _ | refine Plus.plus ?_ _ | refine Plus.drew ?_ | refine Plus.drewN ?_ _)))).mono ?_)
            rintro e w1 ⟨rfl, rfl⟩
            by_cases hs : z ≤ 9007199254740991
            · have HW : Hid ((([] : List Nat)).all dgB = true ∧ whI (vd (([] : List Nat))) = (z : Int)) := Lib.hid ⟨hall, by unfold whI; rw [hz, if_pos hs]⟩
              obtain ⟨p, q, hpq⟩ : ∃ p q : Int, (negR 0 z).k = p ∧ (negR 0 z).n = q := ⟨_, _, rfl, rfl⟩
              have HN := Lib.hid hpq
              have HR : Hid (rNum [45] = ⟨p, q, true⟩) := Lib.hid (by unfold rNum; rw [if_neg (by simp), show dropS [45] = [] from by unfold dropS; simp, if_neg hni, hb2, if_pos rfl, hz, if_pos hs, show sgB [45] = true from rfl]; unfold sgnK sgnN; rw [if_pos rfl, if_pos rfl, hpq.1, hpq.2])
              clear hpq
              clear hb2 hni hall hz
              go_wp2_with fail
              (with_reducible refine (rwhole_n HW _ (HDr.out.plus (by repeat' (first | exact Plus.refl _ | refine Plus.alloc ?_ _ | refine Plus.plus ?_ _ | refine Plus.drew ?_ | refine Plus.drewN ?_ _)))).mono ?_)
              rintro e w1 ⟨rfl, rfl⟩
              have d1 : decide ((z : Int) < 0) = false := by simp
              go_wp2_with fail
              (with_reducible refine (rneg_n HN _).mono ?_)
              rintro e w1 ⟨rfl, ⟨x4, rfl⟩⟩
              go_wp2_with fail
              go_returns
              exact nup HM HR rfl (by repeat' (first | exact Plus.refl _ | refine Plus.alloc ?_ _ | refine Plus.plus ?_ _ | refine Plus.drew ?_ | refine Plus.drewN ?_ _))
            · have HW : Hid ((([] : List Nat)).all dgB = true ∧ whI (vd (([] : List Nat))) = -1) := Lib.hid ⟨hall, by unfold whI; rw [hz, if_neg hs]⟩
              have HR : Hid (rNum [45] = ⟨2, 0, false⟩) := Lib.hid (by unfold rNum; rw [if_neg (by simp), show dropS [45] = [] from by unfold dropS; simp, if_neg hni, hb2, if_pos rfl, hz, if_neg hs])
              clear hb2 hni hall hz
              go_wp2_with fail
              (with_reducible refine (rwhole_n HW _ (HDr.out.plus (by repeat' (first | exact Plus.refl _ | refine Plus.alloc ?_ _ | refine Plus.plus ?_ _ | refine Plus.drew ?_ | refine Plus.drewN ?_ _)))).mono ?_)
              rintro e w1 ⟨rfl, rfl⟩
              go_wp2_with fail
              go_returns
              exact nup HM HR rfl (by repeat' (first | exact Plus.refl _ | refine Plus.alloc ?_ _ | refine Plus.plus ?_ _ | refine Plus.drew ?_ | refine Plus.drewN ?_ _))
        · have HB1 := Lib.hid hb1
          have hyi : ([] : List Nat) = infN := by simpa using hb1
          clear hb1
          have HR : Hid (rNum [45] = ⟨4, 0, true⟩) := Lib.hid (by unfold rNum; rw [if_neg (by simp), show dropS [45] = [] from by unfold dropS; simp, if_pos hyi, show sgB [45] = true from rfl]; rfl)
          clear hyi
          go_wp2_with fail
          (with_reducible refine (refUnits_n HB1 _ (HDr.out.plus (by repeat' (first | exact Plus.refl _ | refine Plus.alloc ?_ _ | refine Plus.plus ?_ _ | refine Plus.drew ?_ | refine Plus.drewN ?_ _))) (a9.out.plus (by repeat' (first | exact Plus.refl _ | refine Plus.alloc ?_ _ | refine Plus.plus ?_ _ | refine Plus.drew ?_ | refine Plus.drewN ?_ _)))).mono ?_)
          rintro e w1 ⟨rfl, ⟨x3, rfl⟩⟩
          clear a9
          have HN : Hid ((negR 3 0).k = 4 ∧ (negR 3 0).n = 0) := Lib.hid (by decide)
          go_wp2_with fail
          (with_reducible refine (rneg_n HN _).mono ?_)
          rintro e w1 ⟨rfl, ⟨x4, rfl⟩⟩
          go_wp2_with fail
          go_returns
          exact nup HM HR rfl (by repeat' (first | exact Plus.refl _ | refine Plus.alloc ?_ _ | refine Plus.plus ?_ _ | refine Plus.drew ?_ | refine Plus.drewN ?_ _))
      · have HDr : Hid (Ar .u16 65536 w (some ⟨g, o + 1, none⟩) r r.length (d - 1)) := Lib.hid (by
          have e := ar_mid (a := 1) (j := r.length + 1) HT.out (by omega) (by omega)
          have e2 : ((45 :: r).drop 1).take (r.length + 1 - 1) = r := by simp
          rw [e2, show r.length + 1 - 1 = r.length by omega] at e
          exact e)
        go_wp2_with fail
        (with_reducible refine (rNaN_c _).mono ?_)
        rintro e w1 ⟨rfl, ⟨x1, rfl⟩⟩
        go_wp2_with fail
        (with_reducible refine (refAscii_n _ (by decide) infN 8 HI _).mono ?_)
        rintro e w1 ⟨A9, c9, rfl, a9, ⟨x2, rfl⟩⟩
        replace a9 := Lib.hid a9
        obtain ⟨b1, hb1⟩ : ∃ b, decide (r = infN) = b := ⟨_, rfl⟩
        cases b1
        · have HB1 := Lib.hid hb1
          have hni : r ≠ infN := by simpa using hb1
          clear hb1
          go_wp2_with fail
          (with_reducible refine (refUnits_n HB1 _ (HDr.out.plus (by repeat' (first | exact Plus.refl _ | refine Plus.alloc ?_ _ | refine Plus.plus ?_ _ | refine Plus.drew ?_ | refine Plus.drewN ?_ _))) (a9.out.plus (by repeat' (first | exact Plus.refl _ | refine Plus.alloc ?_ _ | refine Plus.plus ?_ _ | refine Plus.drew ?_ | refine Plus.drewN ?_ _)))).mono ?_)
          rintro e w1 ⟨rfl, ⟨x3, rfl⟩⟩
          clear a9
          obtain ⟨b2, hb2⟩ : ∃ b, dgs (r) = b := ⟨_, rfl⟩
          have HB2 := Lib.hid hb2
          cases b2
          · obtain ⟨b3, hb3⟩ : ∃ b, numR (45 :: r) = b := ⟨_, rfl⟩
            have HB3 := Lib.hid hb3
            have HR : Hid (rNum (45 :: r) = ⟨2, 0, !b3⟩) := Lib.hid (by unfold rNum; rw [if_neg (by simp), show dropS (45 :: r) = r from by unfold dropS; simp, if_neg hni, hb2, hb3]; rfl)
            clear hb2 hb3 hni
            go_wp2_with fail
            (with_reducible refine (rDigits_n HB2 _ (HDr.out.plus (by repeat' (first | exact Plus.refl _ | refine Plus.alloc ?_ _ | refine Plus.plus ?_ _ | refine Plus.drew ?_ | refine Plus.drewN ?_ _)))).mono ?_)
            rintro e w1 ⟨rfl, rfl⟩
            go_wp2_with fail
            go_region_with (go_at_call 101; (with_reducible refine (rNumeric_n HB3 _ (HT.out.plus (by repeat' (first | exact Plus.refl _ | refine Plus.alloc ?_ _ | refine Plus.plus ?_ _ | refine Plus.drew ?_ | refine Plus.drewN ?_ _)))).mono ?_); rintro e w1 ⟨rfl, rfl⟩)
            all_goals
              go_wp2_with fail
              go_returns
              exact nup HM HR rfl (by repeat' (first | exact Plus.refl _ | refine Plus.alloc ?_ _ | refine Plus.plus ?_ _ | refine Plus.drew ?_ | refine Plus.drewN ?_ _))
          · have hall : (r).all dgB = true := by unfold dgs at hb2; rw [Bool.and_eq_true] at hb2; exact hb2.1
            obtain ⟨z, hz⟩ : ∃ z : Nat, vd (r) = z := ⟨_, rfl⟩
            go_wp2_with fail
            (with_reducible refine (rDigits_n HB2 _ (HDr.out.plus (by repeat' (first | exact Plus.refl _ | refine Plus.alloc ?_ _ | refine Plus.plus ?_ _ | refine Plus.drew ?_ | refine Plus.drewN ?_ _)))).mono ?_)
            rintro e w1 ⟨rfl, rfl⟩
            by_cases hs : z ≤ 9007199254740991
            · have HW : Hid ((r).all dgB = true ∧ whI (vd (r)) = (z : Int)) := Lib.hid ⟨hall, by unfold whI; rw [hz, if_pos hs]⟩
              obtain ⟨p, q, hpq⟩ : ∃ p q : Int, (negR 0 z).k = p ∧ (negR 0 z).n = q := ⟨_, _, rfl, rfl⟩
              have HN := Lib.hid hpq
              have HR : Hid (rNum (45 :: r) = ⟨p, q, true⟩) := Lib.hid (by unfold rNum; rw [if_neg (by simp), show dropS (45 :: r) = r from by unfold dropS; simp, if_neg hni, hb2, if_pos rfl, hz, if_pos hs, show sgB (45 :: r) = true from rfl]; unfold sgnK sgnN; rw [if_pos rfl, if_pos rfl, hpq.1, hpq.2])
              clear hpq
              clear hb2 hni hall hz
              go_wp2_with fail
              (with_reducible refine (rwhole_n HW _ (HDr.out.plus (by repeat' (first | exact Plus.refl _ | refine Plus.alloc ?_ _ | refine Plus.plus ?_ _ | refine Plus.drew ?_ | refine Plus.drewN ?_ _)))).mono ?_)
              rintro e w1 ⟨rfl, rfl⟩
              have d1 : decide ((z : Int) < 0) = false := by simp
              go_wp2_with fail
              (with_reducible refine (rneg_n HN _).mono ?_)
              rintro e w1 ⟨rfl, ⟨x4, rfl⟩⟩
              go_wp2_with fail
              go_returns
              exact nup HM HR rfl (by repeat' (first | exact Plus.refl _ | refine Plus.alloc ?_ _ | refine Plus.plus ?_ _ | refine Plus.drew ?_ | refine Plus.drewN ?_ _))
            · have HW : Hid ((r).all dgB = true ∧ whI (vd (r)) = -1) := Lib.hid ⟨hall, by unfold whI; rw [hz, if_neg hs]⟩
              have HR : Hid (rNum (45 :: r) = ⟨2, 0, false⟩) := Lib.hid (by unfold rNum; rw [if_neg (by simp), show dropS (45 :: r) = r from by unfold dropS; simp, if_neg hni, hb2, if_pos rfl, hz, if_neg hs])
              clear hb2 hni hall hz
              go_wp2_with fail
              (with_reducible refine (rwhole_n HW _ (HDr.out.plus (by repeat' (first | exact Plus.refl _ | refine Plus.alloc ?_ _ | refine Plus.plus ?_ _ | refine Plus.drew ?_ | refine Plus.drewN ?_ _)))).mono ?_)
              rintro e w1 ⟨rfl, rfl⟩
              go_wp2_with fail
              go_returns
              exact nup HM HR rfl (by repeat' (first | exact Plus.refl _ | refine Plus.alloc ?_ _ | refine Plus.plus ?_ _ | refine Plus.drew ?_ | refine Plus.drewN ?_ _))
        · have HB1 := Lib.hid hb1
          have hyi : r = infN := by simpa using hb1
          clear hb1
          have HR : Hid (rNum (45 :: r) = ⟨4, 0, true⟩) := Lib.hid (by unfold rNum; rw [if_neg (by simp), show dropS (45 :: r) = r from by unfold dropS; simp, if_pos hyi, show sgB (45 :: r) = true from rfl]; rfl)
          clear hyi
          go_wp2_with fail
          (with_reducible refine (refUnits_n HB1 _ (HDr.out.plus (by repeat' (first | exact Plus.refl _ | refine Plus.alloc ?_ _ | refine Plus.plus ?_ _ | refine Plus.drew ?_ | refine Plus.drewN ?_ _))) (a9.out.plus (by repeat' (first | exact Plus.refl _ | refine Plus.alloc ?_ _ | refine Plus.plus ?_ _ | refine Plus.drew ?_ | refine Plus.drewN ?_ _)))).mono ?_)
          rintro e w1 ⟨rfl, ⟨x3, rfl⟩⟩
          clear a9
          have HN : Hid ((negR 3 0).k = 4 ∧ (negR 3 0).n = 0) := Lib.hid (by decide)
          go_wp2_with fail
          (with_reducible refine (rneg_n HN _).mono ?_)
          rintro e w1 ⟨rfl, ⟨x4, rfl⟩⟩
          go_wp2_with fail
          go_returns
          exact nup HM HR rfl (by repeat' (first | exact Plus.refl _ | refine Plus.alloc ?_ _ | refine Plus.plus ?_ _ | refine Plus.drew ?_ | refine Plus.drewN ?_ _))
    · by_cases h43 : v = 43
      · subst h43
        by_cases hd1 : d = 1
        · subst hd1
          obtain rfl : r = [] := List.eq_nil_of_length_eq_zero (by omega)
          replace HT : Hid (Ar .u16 65536 w (some ⟨g, o, none⟩) [43] 1 1) := HT
          have HDr : Hid (Ar .u16 65536 w (some ⟨g, o, none⟩) [] 0 0) := Lib.hid ⟨Rd.nil, rfl, by omega, by omega, fun x hx => by simp at hx⟩
          go_wp2_with fail
          (with_reducible refine (rNaN_c _).mono ?_)
          rintro e w1 ⟨rfl, ⟨x1, rfl⟩⟩
          go_wp2_with fail
          (with_reducible refine (refAscii_n _ (by decide) infN 8 HI _).mono ?_)
          rintro e w1 ⟨A9, c9, rfl, a9, ⟨x2, rfl⟩⟩
          replace a9 := Lib.hid a9
          obtain ⟨b1, hb1⟩ : ∃ b, decide (([] : List Nat) = infN) = b := ⟨_, rfl⟩
          cases b1
          · have HB1 := Lib.hid hb1
            have hni : ([] : List Nat) ≠ infN := by simpa using hb1
            clear hb1
            go_wp2_with fail
            (with_reducible refine (refUnits_n HB1 _ (HDr.out.plus (by repeat' (first | exact Plus.refl _ | refine Plus.alloc ?_ _ | refine Plus.plus ?_ _ | refine Plus.drew ?_ | refine Plus.drewN ?_ _))) (a9.out.plus (by repeat' (first | exact Plus.refl _ | refine Plus.alloc ?_ _ | refine Plus.plus ?_ _ | refine Plus.drew ?_ | refine Plus.drewN ?_ _)))).mono ?_)
            rintro e w1 ⟨rfl, ⟨x3, rfl⟩⟩
            clear a9
            obtain ⟨b2, hb2⟩ : ∃ b, dgs (([] : List Nat)) = b := ⟨_, rfl⟩
            have HB2 := Lib.hid hb2
            cases b2
            · obtain ⟨b3, hb3⟩ : ∃ b, numR [43] = b := ⟨_, rfl⟩
              have HB3 := Lib.hid hb3
              have HR : Hid (rNum [43] = ⟨2, 0, !b3⟩) := Lib.hid (by unfold rNum; rw [if_neg (by simp), show dropS [43] = [] from by unfold dropS; simp, if_neg hni, hb2, hb3]; rfl)
              clear hb2 hb3 hni
              go_wp2_with fail
              (with_reducible refine (rDigits_n HB2 _ (HDr.out.plus (by repeat' (first | exact Plus.refl _ | refine Plus.alloc ?_ _ | refine Plus.plus ?_ _ | refine Plus.drew ?_ | refine Plus.drewN ?_ _)))).mono ?_)
              rintro e w1 ⟨rfl, rfl⟩
              go_wp2_with fail
              go_region_with (go_at_call 101; (with_reducible refine (rNumeric_n HB3 _ (HT.out.plus (by repeat' (first | exact Plus.refl _ | refine Plus.alloc ?_ _ | refine Plus.plus ?_ _ | refine Plus.drew ?_ | refine Plus.drewN ?_ _)))).mono ?_); rintro e w1 ⟨rfl, rfl⟩)
              all_goals
                go_wp2_with fail
                go_returns
                exact nup HM HR rfl (by repeat' (first | exact Plus.refl _ | refine Plus.alloc ?_ _ | refine Plus.plus ?_ _ | refine Plus.drew ?_ | refine Plus.drewN ?_ _))
            · have hall : (([] : List Nat)).all dgB = true := by unfold dgs at hb2; rw [Bool.and_eq_true] at hb2; exact hb2.1
              obtain ⟨z, hz⟩ : ∃ z : Nat, vd (([] : List Nat)) = z := ⟨_, rfl⟩
              go_wp2_with fail
              (with_reducible refine (rDigits_n HB2 _ (HDr.out.plus (by repeat' (first | exact Plus.refl _ | refine Plus.alloc ?_ _ | refine Plus.plus ?_ _ | refine Plus.drew ?_ | refine Plus.drewN ?_ _)))).mono ?_)
              rintro e w1 ⟨rfl, rfl⟩
              by_cases hs : z ≤ 9007199254740991
              · have HW : Hid ((([] : List Nat)).all dgB = true ∧ whI (vd (([] : List Nat))) = (z : Int)) := Lib.hid ⟨hall, by unfold whI; rw [hz, if_pos hs]⟩
                have HR : Hid (rNum [43] = ⟨0, z, true⟩) := Lib.hid (by unfold rNum; rw [if_neg (by simp), show dropS [43] = [] from by unfold dropS; simp, if_neg hni, hb2, if_pos rfl, hz, if_pos hs, show sgB [43] = false from rfl]; rfl)
                clear hb2 hni hall hz
                go_wp2_with fail
                (with_reducible refine (rwhole_n HW _ (HDr.out.plus (by repeat' (first | exact Plus.refl _ | refine Plus.alloc ?_ _ | refine Plus.plus ?_ _ | refine Plus.drew ?_ | refine Plus.drewN ?_ _)))).mono ?_)
                rintro e w1 ⟨rfl, rfl⟩
                have d1 : decide ((z : Int) < 0) = false := by simp
                go_wp2_with fail
                go_returns
                exact nup HM HR rfl (by repeat' (first | exact Plus.refl _ | refine Plus.alloc ?_ _ | refine Plus.plus ?_ _ | refine Plus.drew ?_ | refine Plus.drewN ?_ _))
              · have HW : Hid ((([] : List Nat)).all dgB = true ∧ whI (vd (([] : List Nat))) = -1) := Lib.hid ⟨hall, by unfold whI; rw [hz, if_neg hs]⟩
                have HR : Hid (rNum [43] = ⟨2, 0, false⟩) := Lib.hid (by unfold rNum; rw [if_neg (by simp), show dropS [43] = [] from by unfold dropS; simp, if_neg hni, hb2, if_pos rfl, hz, if_neg hs])
                clear hb2 hni hall hz
                go_wp2_with fail
                (with_reducible refine (rwhole_n HW _ (HDr.out.plus (by repeat' (first | exact Plus.refl _ | refine Plus.alloc ?_ _ | refine Plus.plus ?_ _ | refine Plus.drew ?_ | refine Plus.drewN ?_ _)))).mono ?_)
                rintro e w1 ⟨rfl, rfl⟩
                go_wp2_with fail
                go_returns
                exact nup HM HR rfl (by repeat' (first | exact Plus.refl _ | refine Plus.alloc ?_ _ | refine Plus.plus ?_ _ | refine Plus.drew ?_ | refine Plus.drewN ?_ _))
          · have HB1 := Lib.hid hb1
            have hyi : ([] : List Nat) = infN := by simpa using hb1
            clear hb1
            have HR : Hid (rNum [43] = ⟨3, 0, true⟩) := Lib.hid (by unfold rNum; rw [if_neg (by simp), show dropS [43] = [] from by unfold dropS; simp, if_pos hyi, show sgB [43] = false from rfl]; rfl)
            clear hyi
            go_wp2_with fail
            (with_reducible refine (refUnits_n HB1 _ (HDr.out.plus (by repeat' (first | exact Plus.refl _ | refine Plus.alloc ?_ _ | refine Plus.plus ?_ _ | refine Plus.drew ?_ | refine Plus.drewN ?_ _))) (a9.out.plus (by repeat' (first | exact Plus.refl _ | refine Plus.alloc ?_ _ | refine Plus.plus ?_ _ | refine Plus.drew ?_ | refine Plus.drewN ?_ _)))).mono ?_)
            rintro e w1 ⟨rfl, ⟨x3, rfl⟩⟩
            clear a9
            go_wp2_with fail
            go_returns
            exact nup HM HR rfl (by repeat' (first | exact Plus.refl _ | refine Plus.alloc ?_ _ | refine Plus.plus ?_ _ | refine Plus.drew ?_ | refine Plus.drewN ?_ _))
        · have HDr : Hid (Ar .u16 65536 w (some ⟨g, o + 1, none⟩) r r.length (d - 1)) := Lib.hid (by
            have e := ar_mid (a := 1) (j := r.length + 1) HT.out (by omega) (by omega)
            have e2 : ((43 :: r).drop 1).take (r.length + 1 - 1) = r := by simp
            rw [e2, show r.length + 1 - 1 = r.length by omega] at e
            exact e)
          go_wp2_with fail
          (with_reducible refine (rNaN_c _).mono ?_)
          rintro e w1 ⟨rfl, ⟨x1, rfl⟩⟩
          go_wp2_with fail
          (with_reducible refine (refAscii_n _ (by decide) infN 8 HI _).mono ?_)
          rintro e w1 ⟨A9, c9, rfl, a9, ⟨x2, rfl⟩⟩
          replace a9 := Lib.hid a9
          obtain ⟨b1, hb1⟩ : ∃ b, decide (r = infN) = b := ⟨_, rfl⟩
          cases b1
          · have HB1 := Lib.hid hb1
            have hni : r ≠ infN := by simpa using hb1
            clear hb1
            go_wp2_with fail
            (with_reducible refine (refUnits_n HB1 _ (HDr.out.plus (by repeat' (first | exact Plus.refl _ | refine Plus.alloc ?_ _ | refine Plus.plus ?_ _ | refine Plus.drew ?_ | refine Plus.drewN ?_ _))) (a9.out.plus (by repeat' (first | exact Plus.refl _ | refine Plus.alloc ?_ _ | refine Plus.plus ?_ _ | refine Plus.drew ?_ | refine Plus.drewN ?_ _)))).mono ?_)
            rintro e w1 ⟨rfl, ⟨x3, rfl⟩⟩
            clear a9
            obtain ⟨b2, hb2⟩ : ∃ b, dgs (r) = b := ⟨_, rfl⟩
            have HB2 := Lib.hid hb2
            cases b2
            · obtain ⟨b3, hb3⟩ : ∃ b, numR (43 :: r) = b := ⟨_, rfl⟩
              have HB3 := Lib.hid hb3
              have HR : Hid (rNum (43 :: r) = ⟨2, 0, !b3⟩) := Lib.hid (by unfold rNum; rw [if_neg (by simp), show dropS (43 :: r) = r from by unfold dropS; simp, if_neg hni, hb2, hb3]; rfl)
              clear hb2 hb3 hni
              go_wp2_with fail
              (with_reducible refine (rDigits_n HB2 _ (HDr.out.plus (by repeat' (first | exact Plus.refl _ | refine Plus.alloc ?_ _ | refine Plus.plus ?_ _ | refine Plus.drew ?_ | refine Plus.drewN ?_ _)))).mono ?_)
              rintro e w1 ⟨rfl, rfl⟩
              go_wp2_with fail
              go_region_with (go_at_call 101; (with_reducible refine (rNumeric_n HB3 _ (HT.out.plus (by repeat' (first | exact Plus.refl _ | refine Plus.alloc ?_ _ | refine Plus.plus ?_ _ | refine Plus.drew ?_ | refine Plus.drewN ?_ _)))).mono ?_); rintro e w1 ⟨rfl, rfl⟩)
              all_goals
                go_wp2_with fail
                go_returns
                exact nup HM HR rfl (by repeat' (first | exact Plus.refl _ | refine Plus.alloc ?_ _ | refine Plus.plus ?_ _ | refine Plus.drew ?_ | refine Plus.drewN ?_ _))
            · have hall : (r).all dgB = true := by unfold dgs at hb2; rw [Bool.and_eq_true] at hb2; exact hb2.1
              obtain ⟨z, hz⟩ : ∃ z : Nat, vd (r) = z := ⟨_, rfl⟩
              go_wp2_with fail
              (with_reducible refine (rDigits_n HB2 _ (HDr.out.plus (by repeat' (first | exact Plus.refl _ | refine Plus.alloc ?_ _ | refine Plus.plus ?_ _ | refine Plus.drew ?_ | refine Plus.drewN ?_ _)))).mono ?_)
              rintro e w1 ⟨rfl, rfl⟩
              by_cases hs : z ≤ 9007199254740991
              · have HW : Hid ((r).all dgB = true ∧ whI (vd (r)) = (z : Int)) := Lib.hid ⟨hall, by unfold whI; rw [hz, if_pos hs]⟩
                have HR : Hid (rNum (43 :: r) = ⟨0, z, true⟩) := Lib.hid (by unfold rNum; rw [if_neg (by simp), show dropS (43 :: r) = r from by unfold dropS; simp, if_neg hni, hb2, if_pos rfl, hz, if_pos hs, show sgB (43 :: r) = false from rfl]; rfl)
                clear hb2 hni hall hz
                go_wp2_with fail
                (with_reducible refine (rwhole_n HW _ (HDr.out.plus (by repeat' (first | exact Plus.refl _ | refine Plus.alloc ?_ _ | refine Plus.plus ?_ _ | refine Plus.drew ?_ | refine Plus.drewN ?_ _)))).mono ?_)
                rintro e w1 ⟨rfl, rfl⟩
                have d1 : decide ((z : Int) < 0) = false := by simp
                go_wp2_with fail
                go_returns
                exact nup HM HR rfl (by repeat' (first | exact Plus.refl _ | refine Plus.alloc ?_ _ | refine Plus.plus ?_ _ | refine Plus.drew ?_ | refine Plus.drewN ?_ _))
              · have HW : Hid ((r).all dgB = true ∧ whI (vd (r)) = -1) := Lib.hid ⟨hall, by unfold whI; rw [hz, if_neg hs]⟩
                have HR : Hid (rNum (43 :: r) = ⟨2, 0, false⟩) := Lib.hid (by unfold rNum; rw [if_neg (by simp), show dropS (43 :: r) = r from by unfold dropS; simp, if_neg hni, hb2, if_pos rfl, hz, if_neg hs])
                clear hb2 hni hall hz
                go_wp2_with fail
                (with_reducible refine (rwhole_n HW _ (HDr.out.plus (by repeat' (first | exact Plus.refl _ | refine Plus.alloc ?_ _ | refine Plus.plus ?_ _ | refine Plus.drew ?_ | refine Plus.drewN ?_ _)))).mono ?_)
                rintro e w1 ⟨rfl, rfl⟩
                go_wp2_with fail
                go_returns
                exact nup HM HR rfl (by repeat' (first | exact Plus.refl _ | refine Plus.alloc ?_ _ | refine Plus.plus ?_ _ | refine Plus.drew ?_ | refine Plus.drewN ?_ _))
          · have HB1 := Lib.hid hb1
            have hyi : r = infN := by simpa using hb1
            clear hb1
            have HR : Hid (rNum (43 :: r) = ⟨3, 0, true⟩) := Lib.hid (by unfold rNum; rw [if_neg (by simp), show dropS (43 :: r) = r from by unfold dropS; simp, if_pos hyi, show sgB (43 :: r) = false from rfl]; rfl)
            clear hyi
            go_wp2_with fail
            (with_reducible refine (refUnits_n HB1 _ (HDr.out.plus (by repeat' (first | exact Plus.refl _ | refine Plus.alloc ?_ _ | refine Plus.plus ?_ _ | refine Plus.drew ?_ | refine Plus.drewN ?_ _))) (a9.out.plus (by repeat' (first | exact Plus.refl _ | refine Plus.alloc ?_ _ | refine Plus.plus ?_ _ | refine Plus.drew ?_ | refine Plus.drewN ?_ _)))).mono ?_)
            rintro e w1 ⟨rfl, ⟨x3, rfl⟩⟩
            clear a9
            go_wp2_with fail
            go_returns
            exact nup HM HR rfl (by repeat' (first | exact Plus.refl _ | refine Plus.alloc ?_ _ | refine Plus.plus ?_ _ | refine Plus.drew ?_ | refine Plus.drewN ?_ _))
      · have c1 : ((v : Int) == 45) = false := by simp; omega
        have c2 : ((v : Int) == 43) = false := by simp; omega
        have HDr := HT
        have hds : dropS (v :: r) = v :: r := by unfold dropS; simp [h45, h43]
        have hsg : sgB (v :: r) = false := by unfold sgB; simp [h45]
        have HDS := Lib.hid (And.intro hds hsg)
        clear hds hsg h45 h43
        go_wp2_with fail
        (with_reducible refine (rNaN_c _).mono ?_)
        rintro e w1 ⟨rfl, ⟨x1, rfl⟩⟩
        go_wp2_with fail
        (with_reducible refine (refAscii_n _ (by decide) infN 8 HI _).mono ?_)
        rintro e w1 ⟨A9, c9, rfl, a9, ⟨x2, rfl⟩⟩
        replace a9 := Lib.hid a9
        obtain ⟨b1, hb1⟩ : ∃ b, decide ((v :: r) = infN) = b := ⟨_, rfl⟩
        cases b1
        · have HB1 := Lib.hid hb1
          have hni : (v :: r) ≠ infN := by simpa using hb1
          clear hb1
          go_wp2_with fail
          (with_reducible refine (refUnits_n HB1 _ (HDr.out.plus (by repeat' (first | exact Plus.refl _ | refine Plus.alloc ?_ _ | refine Plus.plus ?_ _ | refine Plus.drew ?_ | refine Plus.drewN ?_ _))) (a9.out.plus (by repeat' (first | exact Plus.refl _ | refine Plus.alloc ?_ _ | refine Plus.plus ?_ _ | refine Plus.drew ?_ | refine Plus.drewN ?_ _)))).mono ?_)
          rintro e w1 ⟨rfl, ⟨x3, rfl⟩⟩
          clear a9
          obtain ⟨b2, hb2⟩ : ∃ b, dgs ((v :: r)) = b := ⟨_, rfl⟩
          have HB2 := Lib.hid hb2
          cases b2
          · obtain ⟨b3, hb3⟩ : ∃ b, numR (v :: r) = b := ⟨_, rfl⟩
            have HB3 := Lib.hid hb3
            have HR : Hid (rNum (v :: r) = ⟨2, 0, !b3⟩) := Lib.hid (by unfold rNum; rw [if_neg (by simp), HDS.out.1, if_neg hni, hb2, hb3]; rfl)
            clear hb2 hb3 hni
            go_wp2_with fail
            (with_reducible refine (rDigits_n HB2 _ (HDr.out.plus (by repeat' (first | exact Plus.refl _ | refine Plus.alloc ?_ _ | refine Plus.plus ?_ _ | refine Plus.drew ?_ | refine Plus.drewN ?_ _)))).mono ?_)
            rintro e w1 ⟨rfl, rfl⟩
            go_wp2_with fail
            go_region_with (go_at_call 101; (with_reducible refine (rNumeric_n HB3 _ (HT.out.plus (by repeat' (first | exact Plus.refl _ | refine Plus.alloc ?_ _ | refine Plus.plus ?_ _ | refine Plus.drew ?_ | refine Plus.drewN ?_ _)))).mono ?_); rintro e w1 ⟨rfl, rfl⟩)
            all_goals
              go_wp2_with fail
              go_returns
              exact nup HM HR rfl (by repeat' (first | exact Plus.refl _ | refine Plus.alloc ?_ _ | refine Plus.plus ?_ _ | refine Plus.drew ?_ | refine Plus.drewN ?_ _))
          · have hall : ((v :: r)).all dgB = true := by unfold dgs at hb2; rw [Bool.and_eq_true] at hb2; exact hb2.1
            obtain ⟨z, hz⟩ : ∃ z : Nat, vd ((v :: r)) = z := ⟨_, rfl⟩
            go_wp2_with fail
            (with_reducible refine (rDigits_n HB2 _ (HDr.out.plus (by repeat' (first | exact Plus.refl _ | refine Plus.alloc ?_ _ | refine Plus.plus ?_ _ | refine Plus.drew ?_ | refine Plus.drewN ?_ _)))).mono ?_)
            rintro e w1 ⟨rfl, rfl⟩
            by_cases hs : z ≤ 9007199254740991
            · have HW : Hid (((v :: r)).all dgB = true ∧ whI (vd ((v :: r))) = (z : Int)) := Lib.hid ⟨hall, by unfold whI; rw [hz, if_pos hs]⟩
              have HR : Hid (rNum (v :: r) = ⟨0, z, true⟩) := Lib.hid (by unfold rNum; rw [if_neg (by simp), HDS.out.1, if_neg hni, hb2, if_pos rfl, hz, if_pos hs, HDS.out.2]; rfl)
              clear hb2 hni hall hz
              go_wp2_with fail
              (with_reducible refine (rwhole_n HW _ (HDr.out.plus (by repeat' (first | exact Plus.refl _ | refine Plus.alloc ?_ _ | refine Plus.plus ?_ _ | refine Plus.drew ?_ | refine Plus.drewN ?_ _)))).mono ?_)
              rintro e w1 ⟨rfl, rfl⟩
              have d1 : decide ((z : Int) < 0) = false := by simp
              go_wp2_with fail
              go_returns
              exact nup HM HR rfl (by repeat' (first | exact Plus.refl _ | refine Plus.alloc ?_ _ | refine Plus.plus ?_ _ | refine Plus.drew ?_ | refine Plus.drewN ?_ _))
            · have HW : Hid (((v :: r)).all dgB = true ∧ whI (vd ((v :: r))) = -1) := Lib.hid ⟨hall, by unfold whI; rw [hz, if_neg hs]⟩
              have HR : Hid (rNum (v :: r) = ⟨2, 0, false⟩) := Lib.hid (by unfold rNum; rw [if_neg (by simp), HDS.out.1, if_neg hni, hb2, if_pos rfl, hz, if_neg hs])
              clear hb2 hni hall hz
              go_wp2_with fail
              (with_reducible refine (rwhole_n HW _ (HDr.out.plus (by repeat' (first | exact Plus.refl _ | refine Plus.alloc ?_ _ | refine Plus.plus ?_ _ | refine Plus.drew ?_ | refine Plus.drewN ?_ _)))).mono ?_)
              rintro e w1 ⟨rfl, rfl⟩
              go_wp2_with fail
              go_returns
              exact nup HM HR rfl (by repeat' (first | exact Plus.refl _ | refine Plus.alloc ?_ _ | refine Plus.plus ?_ _ | refine Plus.drew ?_ | refine Plus.drewN ?_ _))
        · have HB1 := Lib.hid hb1
          have hyi : (v :: r) = infN := by simpa using hb1
          clear hb1
          have HR : Hid (rNum (v :: r) = ⟨3, 0, true⟩) := Lib.hid (by unfold rNum; rw [if_neg (by simp), HDS.out.1, if_pos hyi, HDS.out.2]; rfl)
          clear hyi
          go_wp2_with fail
          (with_reducible refine (refUnits_n HB1 _ (HDr.out.plus (by repeat' (first | exact Plus.refl _ | refine Plus.alloc ?_ _ | refine Plus.plus ?_ _ | refine Plus.drew ?_ | refine Plus.drewN ?_ _))) (a9.out.plus (by repeat' (first | exact Plus.refl _ | refine Plus.alloc ?_ _ | refine Plus.plus ?_ _ | refine Plus.drew ?_ | refine Plus.drewN ?_ _)))).mono ?_)
          rintro e w1 ⟨rfl, ⟨x3, rfl⟩⟩
          clear a9
          go_wp2_with fail
          go_returns
          exact nup HM HR rfl (by repeat' (first | exact Plus.refl _ | refine Plus.alloc ?_ _ | refine Plus.plus ?_ _ | refine Plus.drew ?_ | refine Plus.drewN ?_ _))
end Go.Proofs.YtakahpbondaidaaGreatDoor
namespace Go.Proofs.YtakahpbondaidaaGreatDoor
open Go.RowKit

theorem dg_low {xs : List Nat} (h : xs.all dgB = true) : low xs = true := by
  unfold low
  rw [List.all_eq_true] at h ⊢
  intro x hx
  have := h x hx
  unfold dgB at this
  simp at this ⊢
  omega
theorem dd_fold : ∀ (xs : List Nat), xs.all dgB = true → ∀ m, 0 < m → Lib.decDigits (xs.foldl (fun n x => 10 * n + (x - 48)) m) = Lib.decDigits m ++ xs.map Nat.toUInt8
  | [], _, m, _ => by simp
  | x :: xs, h, m, hm => by
    rw [List.all_cons, Bool.and_eq_true] at h
    have h1 := h.1
    unfold dgB at h1
    simp at h1
    rw [List.foldl_cons, dd_fold xs h.2 (10 * m + (x - 48)) (by omega), dd_push m (x - 48) hm (by omega), List.append_assoc, List.map_cons]
    congr 1
    show [UInt8.ofNat (48 + (x - 48))] ++ _ = _
    rw [show 48 + (x - 48) = x by omega]
    rfl
theorem wz_vd : ∀ (xs : List Nat), xs.all dgB = true → wzT (xs.map Nat.toUInt8) = Lib.decDigits (vd xs)
  | [], _ => by
    show wzT [] = Lib.decDigits 0
    rw [Lib.decDigits_one (by omega)]
    decide
  | x :: xs, h => by
    have hs := h
    rw [List.all_cons, Bool.and_eq_true] at h
    have h1 := h.1
    unfold dgB at h1
    simp at h1
    by_cases h0 : x = 48
    · subst h0
      have e1 : vd (48 :: xs) = vd xs := rfl
      have e2 : wzT ((48 :: xs).map Nat.toUInt8) = wzT (xs.map Nat.toUInt8) := by
        unfold wzT Lib.trimLeftS
        rw [List.map_cons]
        have : ((48 : Nat).toUInt8 :: xs.map Nat.toUInt8).dropWhile (([48] : List UInt8).contains ·) = (xs.map Nat.toUInt8).dropWhile (([48] : List UInt8).contains ·) := by
          rw [List.dropWhile_cons, if_pos (by decide)]
        rw [this]
      rw [e1, e2]
      exact wz_vd xs h.2
    · have e1 : vd (x :: xs) = xs.foldl (fun n x => 10 * n + (x - 48)) (x - 48) := by unfold vd; rw [List.foldl_cons]; congr 1; omega
      have hx : x.toUInt8.toNat = x := toNat_u8 (by omega)
      have e2 : wzT ((x :: xs).map Nat.toUInt8) = (x :: xs).map Nat.toUInt8 := by
        have hd : (x.toUInt8 :: xs.map Nat.toUInt8).dropWhile (([48] : List UInt8).contains ·) = x.toUInt8 :: xs.map Nat.toUInt8 := by
          rw [List.dropWhile_cons, if_neg]
          intro q
          simp at q
          have q2 := congrArg UInt8.toNat q
          rw [hx] at q2
          first | exact h0 q2 | exact h0 q2.symm
        unfold wzT Lib.trimLeftS
        rw [List.map_cons, hd]
        rfl
      rw [e1, e2, dd_fold xs h.2 (x - 48) (by omega), Lib.decDigits_one (by omega), List.map_cons]
      show x.toUInt8 :: _ = UInt8.ofNat (48 + (x - 48)) :: _
      rw [show 48 + (x - 48) = x by omega]
      rfl
/-- Digits as a number. -/
theorem par_vd {xs : List Nat} (h : xs.all dgB = true) : parS (wzT (xs.map Nat.toUInt8)) = if vd xs ≤ 9007199254740991 then ⟨0, (vd xs : Int), true⟩ else ⟨2, 0, false⟩ := by
  rw [wz_vd xs h]
  by_cases q : vd xs ≤ 9007199254740991
  · rw [if_pos q, par_dd' q]
  · rw [if_neg q, par_over (by omega)]
theorem u8_inj {x y : Nat} (hx : x < 128) (hy : y < 128) (h : x.toUInt8 = y.toUInt8) : x = y := by
  have := congrArg UInt8.toNat h
  rw [toNat_u8 (by omega), toNat_u8 (by omega)] at this
  exact this
theorem map_inj : ∀ (xs ys : List Nat), low xs = true → low ys = true → xs.map Nat.toUInt8 = ys.map Nat.toUInt8 → xs = ys
  | [], [], _, _, _ => rfl
  | [], _ :: _, _, _, h => by simp at h
  | _ :: _, [], _, _, h => by simp at h
  | x :: xs, y :: ys, hx, hy, h => by
    unfold low at hx hy
    rw [List.all_cons, Bool.and_eq_true] at hx hy
    rw [List.map_cons, List.map_cons] at h
    injection h with h1 h2
    have e1 : x = y := u8_inj (by simpa using hx.1) (by simpa using hy.1) h1
    rw [e1, map_inj xs ys hx.2 hy.2 h2]
theorem low_cons {x : Nat} {xs : List Nat} (h : low (x :: xs) = true) : x < 128 ∧ low xs = true := by
  unfold low at h
  rw [List.all_cons, Bool.and_eq_true] at h
  exact ⟨by simpa using h.1, h.2⟩
/-- The text behind the sign. -/
theorem uns_drop {t : List Nat} (ht : low t = true) (h0 : t ≠ []) : unsT (t.map Nat.toUInt8) = (dropS t).map Nat.toUInt8 ∧ Lib.hasPrefix (t.map Nat.toUInt8) [45] = sgB t := by
  cases t with
  | nil => exact absurd rfl h0
  | cons v r =>
    obtain ⟨hv, _⟩ := low_cons ht
    have hp : ∀ b : Nat, b < 128 → Lib.hasPrefix ((v :: r).map Nat.toUInt8) [b.toUInt8] = decide (v = b) := fun b hb => by
      unfold Lib.hasPrefix
      rw [List.map_cons]
      simp only [List.isPrefixOf, Bool.and_true]
      rw [Bool.eq_iff_iff]
      simp
      constructor
      · intro e; exact (u8_inj hb hv e).symm
      · intro e; rw [e]
    have h45 := hp 45 (by decide)
    have h43 := hp 43 (by decide)
    have c45 : (45 : Nat).toUInt8 = 45 := rfl
    have c43 : (43 : Nat).toUInt8 = 43 := rfl
    rw [c45] at h45
    rw [c43] at h43
    unfold unsT Lib.trimPrefix sgB dropS
    rw [h45, h43]
    refine ⟨?_, rfl⟩
    simp only [List.getD_cons_zero]
    by_cases q : v = 45
    · simp [q]
    · by_cases q2 : v = 43
      · simp [q2]
      · simp [q, q2]
theorem trimS_low {t : List Nat} (h1 : blankB (t.getD 0 0) = false) (h2 : blankB (t.getD (t.length - 1) 0) = false) (hl : low t = true) (h0 : t ≠ []) : Lib.trimS (t.map Nat.toUInt8) blankS = t.map Nat.toUInt8 := by
  have hb : ∀ x : Nat, x < 128 → blankB x = false → blankS.contains x.toUInt8 = false := fun x hx hb => by
    unfold blankB at hb
    simp at hb
    have e : ∀ y : Nat, y < 128 → x ≠ y → ¬ x.toUInt8 = y.toUInt8 := fun y hy q e => q (u8_inj hx hy e)
    unfold blankS
    simp
    exact ⟨e 32 (by decide) (by omega), e 9 (by decide) (by omega), e 10 (by decide) (by omega), e 13 (by decide) (by omega)⟩
  have hlow : ∀ x ∈ t, x < 128 := fun x hx => by
    unfold low at hl
    have := List.all_eq_true.1 hl x hx
    simpa using this
  have hr : Lib.trimRightS (t.map Nat.toUInt8) blankS = t.map Nat.toUInt8 := by
    unfold Lib.trimRightS
    obtain ⟨s, z, rfl⟩ : ∃ s z, t = s ++ [z] := ⟨t.dropLast, t.getLast h0, (List.dropLast_concat_getLast h0).symm⟩
    have hz : blankB z = false := by
      rw [List.length_append, show s.length + [z].length - 1 = s.length by simp] at h2
      rw [List.getD_eq_getElem?_getD, List.getElem?_append_right (Nat.le_refl _)] at h2
      simpa using h2
    rw [List.map_append, List.reverse_append]
    show (List.dropWhile _ (z.toUInt8 :: _)).reverse = _
    rw [List.dropWhile_cons, if_neg (by rw [hb z (hlow z (by simp)) hz]; simp)]
    simp
  unfold Lib.trimS
  rw [hr]
  unfold Lib.trimLeftS
  cases t with
  | nil => rfl
  | cons v r =>
    rw [List.map_cons, List.dropWhile_cons, if_neg (by rw [hb v (hlow v (by simp)) (by simpa using h1)]; simp)]
theorem dw_nil {p : UInt8 → Bool} : ∀ {l : List UInt8}, l.dropWhile p = [] → ∀ x ∈ l, p x = true
  | [], _, x, hx => by cases hx
  | y :: l, h, x, hx => by
    rw [List.dropWhile_cons] at h
    by_cases q : p y = true
    · rw [if_pos q] at h
      rcases List.mem_cons.1 hx with e | e
      · rw [e]; exact q
      · exact dw_nil h x e
    · rw [if_neg q] at h
      cases h
theorem dw_head {p : UInt8 → Bool} : ∀ {l : List UInt8} {y : UInt8} {ys : List UInt8}, l.dropWhile p = y :: ys → p y = false
  | [], _, _, h => by cases h
  | z :: l, y, ys, h => by
    rw [List.dropWhile_cons] at h
    by_cases q : p z = true
    · rw [if_pos q] at h
      exact dw_head h
    · rw [if_neg q] at h
      injection h with h _
      rw [← h]
      simpa using q
theorem trim_nil_iff (c : List UInt8) (l : List UInt8) : Lib.trimS l c = [] ↔ ∀ x ∈ l, c.contains x = true := by
  constructor
  · intro h
    have h1 : Lib.trimRightS l c = [] ∨ ∀ x ∈ Lib.trimRightS l c, c.contains x = true := by
      right
      unfold Lib.trimS Lib.trimLeftS at h
      exact dw_nil h
    have h2 : ∀ x ∈ Lib.trimRightS l c, c.contains x = true := by
      rcases h1 with h1 | h1
      · rw [h1]; intro x hx; cases hx
      · exact h1
    unfold Lib.trimRightS at h2
    have h3 : l.reverse.dropWhile (c.contains ·) = [] := by
      cases q : l.reverse.dropWhile (c.contains ·) with
      | nil => rfl
      | cons y ys =>
        have hy := h2 y (by rw [q]; simp)
        have := dw_head q
        rw [this] at hy
        cases hy
    have h4 := dw_nil h3
    intro x hx
    exact h4 x (List.mem_reverse.2 hx)
  · exact trim_all l c
end Go.Proofs.YtakahpbondaidaaGreatDoor
namespace Go.Proofs.YtakahpbondaidaaGreatDoor
open Go.RowKit

theorem plS_low {xs : List Nat} (h : low xs = true) : (plS xs).data.toList = xs.map Nat.toUInt8 := by unfold plS; rw [if_pos h]; rfl
theorem set_dig : (List.range 128).all (fun x => digS.contains x.toUInt8 == dgB x) = true := by kernel_rfl
theorem set_num : (List.range 128).all (fun x => numS.contains x.toUInt8 == numOk x) = true := by kernel_rfl
theorem dig_eq {x : Nat} (h : x < 128) : digS.contains x.toUInt8 = dgB x := by
  have := List.all_eq_true.1 set_dig x (List.mem_range.2 h)
  simpa using this
theorem num_eq {x : Nat} (h : x < 128) : numS.contains x.toUInt8 = numOk x := by
  have := List.all_eq_true.1 set_num x (List.mem_range.2 h)
  simpa using this
theorem low_mem {t : List Nat} (hl : low t = true) : ∀ x ∈ t, x < 128 := fun x hx => by
  unfold low at hl
  have := List.all_eq_true.1 hl x hx
  simpa using this
theorem any_eq (c : List UInt8) : ∀ l : List UInt8, Lib.containsAny l c = l.any (c.contains ·)
  | [] => by unfold Lib.containsAny Lib.indexAny; rfl
  | b :: l => by
    have ih := any_eq c l
    have hg := Lib.indexAny_ge c l
    unfold Lib.containsAny at ih ⊢
    rw [List.any_cons, ← ih, Lib.indexAny]
    cases hb : c.contains b
    · rw [if_neg (by simp), Bool.false_or]
      by_cases q : Lib.indexAny l c = -1
      · rw [if_pos (by simpa using q), q]
      · rw [if_neg (by simpa using q), Bool.eq_iff_iff]
        simp
        omega
    · rw [if_pos rfl]
      rfl
theorem has_dig {t : List Nat} (hl : low t = true) : Lib.containsAny (t.map Nat.toUInt8) digS = t.any dgB := by
  have hm := low_mem hl
  rw [any_eq, Bool.eq_iff_iff, List.any_eq_true, List.any_eq_true]
  constructor
  · intro h
    obtain ⟨y, hy, h⟩ := h
    obtain ⟨x, hx, rfl⟩ := List.mem_map.1 hy
    rw [dig_eq (hm x hx)] at h
    exact ⟨x, hx, h⟩
  · intro h
    obtain ⟨x, hx, h⟩ := h
    exact ⟨x.toUInt8, List.mem_map.2 ⟨x, hx, rfl⟩, by rw [dig_eq (hm x hx)]; exact h⟩
theorem all_num {t : List Nat} (hl : low t = true) : decide (Lib.trimS (t.map Nat.toUInt8) numS = []) = t.all numOk := by
  have hm := low_mem hl
  rw [Bool.eq_iff_iff, decide_eq_true_iff, trim_nil_iff, List.all_eq_true]
  constructor
  · intro h x hx
    rw [← num_eq (hm x hx)]
    exact h _ (List.mem_map.2 ⟨x, hx, rfl⟩)
  · intro h y hy
    obtain ⟨x, hx, rfl⟩ := List.mem_map.1 hy
    rw [num_eq (hm x hx)]
    exact h x hx
theorem all_dig {t : List Nat} (hl : low t = true) : Lib.trimS (t.map Nat.toUInt8) digS = [] ↔ t.all dgB = true := by
  have hm := low_mem hl
  rw [trim_nil_iff, List.all_eq_true]
  constructor
  · intro h x hx
    rw [← dig_eq (hm x hx)]
    exact h _ (List.mem_map.2 ⟨x, hx, rfl⟩)
  · intro h y hy
    obtain ⟨x, hx, rfl⟩ := List.mem_map.1 hy
    rw [dig_eq (hm x hx)]
    exact h x hx
theorem numOk_low {x : Nat} (h : numOk x = true) : x < 128 := by
  unfold numOk nuJ numBase dgB otL at h
  simp at h
  omega
theorem low_of {t : List Nat} {p : Nat → Bool} (hp : ∀ x, p x = true → x < 128) (h : t.all p = true) : low t = true := by
  unfold low
  rw [List.all_eq_true] at h ⊢
  intro x hx
  simpa using hp x (h x hx)
theorem drop_low {t : List Nat} (h0 : t ≠ []) : low (dropS t) = low t := by
  cases t with
  | nil => exact absurd rfl h0
  | cons v r =>
    unfold dropS
    simp only [List.getD_cons_zero]
    by_cases q : v = 45 ∨ v = 43
    · rw [if_pos q]
      show low r = low (v :: r)
      unfold low
      rw [List.all_cons]
      have : decide (v < 128) = true := by simp; omega
      rw [this, Bool.true_and]
    · rw [if_neg q]
theorem num_mid {t : List Nat} (h : t ≠ [] → blankB (t.getD 0 0) = false ∧ blankB (t.getD (t.length - 1) 0) = false) : numU t = rNum t := by
  by_cases h0 : t = []
  · subst h0
    rfl
  obtain ⟨h1, h2⟩ := h h0
  unfold numU rNum
  rw [if_neg h0]
  have hd := drop_low h0
  cases hl : low t
  · rw [hl] at hd
    have n1 : dropS t ≠ infN := fun e => by rw [e] at hd; exact absurd hd (by decide)
    have n2 : dgs (dropS t) = false := by
      unfold dgs
      rw [Bool.and_eq_false_iff]
      left
      rw [Bool.eq_false_iff]
      intro q
      rw [dg_low q] at hd
      cases hd
    have n3 : numR t = false := by
      unfold numR
      rw [Bool.and_eq_false_iff]
      left
      rw [Bool.eq_false_iff]
      intro q
      rw [low_of (fun _ => numOk_low) q] at hl
      cases hl
    rw [if_neg (by simp), if_neg n1, n2, n3]
    rfl
  · rw [hl] at hd
    rw [if_pos rfl, trimS_low h1 h2 hl h0]
    obtain ⟨hu, hp⟩ := uns_drop hl h0
    unfold numT
    rw [if_neg (by simpa using h0), hu, hp]
    by_cases c1 : dropS t = infN
    · rw [if_pos c1, if_pos (by rw [c1]; decide)]
    · rw [if_neg c1, if_neg (fun e => c1 (map_inj _ _ hd (by decide) (by rw [e]; decide)))]
      cases c2 : dgs (dropS t)
      · have n2 : ¬ ((dropS t).map Nat.toUInt8 ≠ [] ∧ Lib.trimS ((dropS t).map Nat.toUInt8) digS = []) := by
          rintro ⟨q1, q2⟩
          rw [all_dig hd] at q2
          unfold dgs at c2
          rw [q2, Bool.true_and] at c2
          apply q1
          have : (dropS t).length = 0 := by simpa using c2
          rw [List.eq_nil_of_length_eq_zero this]
          rfl
        rw [if_neg n2, has_dig hl, all_num hl, Bool.and_comm]
        rfl
      · have c3 := c2
        unfold dgs at c3
        rw [Bool.and_eq_true] at c3
        have hne : (dropS t).map Nat.toUInt8 ≠ [] := fun e => by
          have e2 := congrArg List.length e
          rw [List.length_map] at e2
          have := c3.2
          simp only [decide_eq_true_eq] at this
          rw [e2] at this
          exact absurd this (by simp)
        rw [if_pos ⟨hne, (all_dig hd).2 c3.1⟩, if_pos rfl, par_vd c3.1]
        by_cases q : vd (dropS t) ≤ 9007199254740991
        · rw [if_pos q, if_pos q]
        · rw [if_neg q, if_neg q]
          cases sgB t <;> rfl
theorem numU_mid {xs mid : List Nat} (h : TrimOf xs mid) : numU xs = rNum mid := by
  obtain ⟨b1, b2, rfl, h1, h2, h3⟩ := h
  rw [num_around h1 h2, num_mid h3]
end Go.Proofs.YtakahpbondaidaaGreatDoor
