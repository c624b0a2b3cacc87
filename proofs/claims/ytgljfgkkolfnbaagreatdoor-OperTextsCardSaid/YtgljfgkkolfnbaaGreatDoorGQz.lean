/- big: Div, Rem. -/
import Derived.Test.YtgljfgkkolfnbaaGreatDoorGY
import Derived.Test.YtgljfgkkolfnbaaGreatDoorGZ
namespace Go.Proofs.YtgljfgkkolfnbaaGreatDoor.Bg
open Go.RowKit

/-- A number and no error; or, where b is zero, zero and the error 4. -/
def RetBigE (n : Int) (b : Nat) (w : World) (e : Ending) (w' : World) : Prop :=
  ∃ (A : Option Addr) (c : Nat) (m : Int) (er : Int), e = .returned (.tuple #[.agg #[.bool (decide (m < 0)), .slice A (dig m.natAbs).length c], .int .i64 er]) ∧ er = (if b = 0 then 4 else 0) ∧ m = (if b = 0 then 0 else n) ∧ (dig m.natAbs).length ≤ c ∧ c ≤ 9223372036854775807 ∧ Lim w' A (dig m.natAbs) ∧ Plus w w'
theorem RetBigE.zero {n : Int} {b : Nat} {w w' : World} (h : b = 0) (hp : Plus w w') : RetBigE n b w (.returned (.tuple #[.agg #[.bool false, .slice none 0 0], .int .i64 4])) w' := by
  refine ⟨none, 0, 0, 4, by rw [show (0 : Int).natAbs = 0 from rfl, dig_zero]; rfl, by rw [if_pos h], by rw [if_pos h], by rw [show (0 : Int).natAbs = 0 from rfl, dig_zero]; exact Nat.le_refl _, by omega, by rw [show (0 : Int).natAbs = 0 from rfl, dig_zero]; exact Lim.nil, hp⟩

set_option maxRecDepth 100000 in
set_option maxHeartbeats 8000000 in
theorem div_h (an bn pb qb : Bool) (A C : Option Addr) (xs ys us vs : List Nat) (n c m d : Nat) (w : World) (ha : Hid (Arg w A xs n c)) (hb : Hid (Arg w C ys m d)) (h1 : Hid (decide (bigI an xs < 0) = pb ∧ dig (bigI an xs).natAbs = us)) (h2 : Hid (decide (bigI bn ys < 0) = qb ∧ dig (bigI bn ys).natAbs = vs)) (hu : us.length ≤ 8) (hv : vs.length ≤ 8) :
    Calls Tryz.prog 96 #[.agg #[.bool an, .slice A n c], .agg #[.bool bn, .slice C m d]] w (RetBigE (sgn (!pb == qb) (val us / val vs)) (val vs) w) := by
  go_enter Tryz.func96, Tryz.ntmps96
  go_upto_region 1 with fail
  go_cut [] (fun wx => ∃ A1 c1 C1 d1 x1 x2, wx = _root_.Go.Proofs.YtgljfgkkolfnbaaGreatDoor.plus (_root_.Go.Proofs.YtgljfgkkolfnbaaGreatDoor.plus (((w.alloc (.cells #[.bool pb, .slice A1 us.length c1] 26)).alloc (.cells #[.bool qb, .slice C1 vs.length d1] 26)).alloc (.cells #[.bool false, .slice none 0 0] 26)) x1) x2 ∧ Lim wx A1 us ∧ Lim wx C1 vs ∧ us.length ≤ c1 ∧ c1 ≤ 9223372036854775807 ∧ vs.length ≤ d1 ∧ d1 ≤ 9223372036854775807)
  case first =>
    go_region_with (first | (go_at_call_of 135 (Value.agg #[.bool an, .slice A n c]); (with_reducible refine (valid_h h1 _ (ha.out.plus (by repeat' (first | exact Plus.refl _ | refine Plus.alloc ?_ _ | refine Plus.plus ?_ _ | refine Plus.drew ?_ | refine Plus.drewN ?_ _)))).mono ?_); rintro e w1 ⟨A1, c1, rfl, q1, q2, q3, ⟨x1, rfl⟩⟩; have Q3 := Lib.hid q3; have Q1 := Lib.hid q1; have Q2 := Lib.hid q2; clear q3 q1 q2) | (go_at_call_of 135 (Value.agg #[.bool bn, .slice C m d]); (with_reducible refine (valid_h h2 _ (hb.out.plus (by repeat' (first | exact Plus.refl _ | refine Plus.alloc ?_ _ | refine Plus.plus ?_ _ | refine Plus.drew ?_ | refine Plus.drewN ?_ _)))).mono ?_); rintro e w1 ⟨C1, d1, rfl, r1, r2, r3, ⟨y1, rfl⟩⟩; have R3 := Lib.hid r3; have R1 := Lib.hid r1; have R2 := Lib.hid r2; clear r3 r1 r2))
    all_goals
      go_wp2_with fail
      go_meet
      have Q4 := Q3.out
      have R4 := R3.out
      simp only [plus_drew] at Q4 R4
      refine ⟨A1, c1, C1, d1, _, _, rfl, ?_, ?_, Q1.out, Q2.out, R1.out, R2.out⟩
      all_goals first | with_reducible exact (Q4.box3 (isBox.mk _ _ _ _ _) (isBox.mk _ _ _ _ _) (isBox.mk _ _ _ _ _)).grow _ | with_reducible exact Q4.box33 (isBox.mk _ _ _ _ _) (isBox.mk _ _ _ _ _) (isBox.mk _ _ _ _ _) | with_reducible exact (R4.box3 (isBox.mk _ _ _ _ _) (isBox.mk _ _ _ _ _) (isBox.mk _ _ _ _ _)).grow _ | with_reducible exact R4.box33 (isBox.mk _ _ _ _ _) (isBox.mk _ _ _ _ _) (isBox.mk _ _ _ _ _)
  case rest =>
    obtain ⟨A1, c1, C1, d1, x1, x2, rfl, hL1, hL2, k1, k2, k3, k4⟩ := hcut
    have L1 := Lib.hid hL1
    have L2 := Lib.hid hL2
    clear hL1 hL2
    by_cases h0 : vs.length = 0
    · have hz : val vs = 0 := by rw [List.eq_nil_of_length_eq_zero h0]; rfl
      have HZ := Lib.hid hz
      clear hz
      rw [h0]
      go_wp2_with fail
      go_returns
      exact RetBigE.zero HZ.out (by repeat' (first | exact Plus.refl _ | refine Plus.alloc ?_ _ | refine Plus.plus ?_ _ | refine Plus.drew ?_ | refine Plus.drewN ?_ _))
    · have h0b : ((vs.length : Int) == 0) = false := by simpa using h0
      have hpos : 0 < val vs := by
        rcases Nat.eq_zero_or_pos (val vs) with hz | hz
        · rw [← h2.out.2, val_dig] at hz
          rw [← h2.out.2, hz, dig_zero] at h0
          exact absurd rfl h0
        · exact hz
      have HP := Lib.hid hpos
      clear hpos
      go_wp2_with (go_at_call 157; (with_reducible refine (divide_c _ _ us vs _ _ _ (by first | exact L1.out | exact Lim.drew L1.out | (have q := L1.out; simp only [plus_drew] at q; exact q) | (have q := L1.out; simp only [plus_drew, size_plus, World.size_alloc, Nat.add_assoc] at q ⊢; exact q) | (have q := L1.out; simp only [plus_drew, size_plus, World.size_alloc, Nat.add_assoc] at q; exact q)) (by first | exact L2.out | exact Lim.drew L2.out | (have q := L2.out; simp only [plus_drew] at q; exact q) | (have q := L2.out; simp only [plus_drew, size_plus, World.size_alloc, Nat.add_assoc] at q ⊢; exact q) | (have q := L2.out; simp only [plus_drew, size_plus, World.size_alloc, Nat.add_assoc] at q; exact q)) (by omega) (by omega) HP.out).mono ?_); rintro e w1 ⟨os, rs, rfl, q1, q2, q3, q4, q5, q6, hB1⟩; obtain ⟨x3, rfl⟩ := Plus.of_below hB1; have Q1 := Lib.hid q1; have Q2 := Lib.hid q2; have Q3 := Lib.hid q3; have Q4 := Lib.hid q4; have Q5 := Lib.hid q5; have Q6 := Lib.hid q6; clear q1 q2 q3 q4 q5 q6 hB1)
      refine (made_c _ _ os _ _ _ (by have q := Q1.out.toLim; simp only [size_plus, World.size_alloc] at q; exact q) rfl (Nat.le_refl _) (by have := Q5.out; omega)).mono ?_
      rintro e w1 ⟨A3, c3, rfl, r1, r2, r3, ⟨x4, rfl⟩⟩
      rw [Q3.out] at r1 r3 ⊢
      have R1 := Lib.hid r1
      have R3 := Lib.hid r3
      clear r1 r3
      go_wp2_with fail
      go_returns
      refine ⟨A3, c3, _, 0, rfl, by rw [if_neg (Nat.ne_of_gt HP.out)], by rw [if_neg (Nat.ne_of_gt HP.out)], R1.out, r2, ?_, ?_⟩
      · have q := R3.out
        simp only [plus_add] at q ⊢
        exact q.res
      · repeat' (first | exact Plus.refl _ | refine Plus.alloc ?_ _ | refine Plus.plus ?_ _ | refine Plus.drew ?_ | refine Plus.drewN ?_ _)

set_option maxRecDepth 100000 in
set_option maxHeartbeats 8000000 in
theorem rem_h (an bn pb qb : Bool) (A C : Option Addr) (xs ys us vs : List Nat) (n c m d : Nat) (w : World) (ha : Hid (Arg w A xs n c)) (hb : Hid (Arg w C ys m d)) (h1 : Hid (decide (bigI an xs < 0) = pb ∧ dig (bigI an xs).natAbs = us)) (h2 : Hid (decide (bigI bn ys < 0) = qb ∧ dig (bigI bn ys).natAbs = vs)) (hu : us.length ≤ 8) (hv : vs.length ≤ 8) :
    Calls Tryz.prog 97 #[.agg #[.bool an, .slice A n c], .agg #[.bool bn, .slice C m d]] w (RetBigE (sgn pb (val us % val vs)) (val vs) w) := by
  go_enter Tryz.func97, Tryz.ntmps97
  go_upto_region 1 with fail
  go_cut [] (fun wx => ∃ A1 c1 C1 d1 x1 x2, wx = _root_.Go.Proofs.YtgljfgkkolfnbaaGreatDoor.plus (_root_.Go.Proofs.YtgljfgkkolfnbaaGreatDoor.plus (((w.alloc (.cells #[.bool pb, .slice A1 us.length c1] 26)).alloc (.cells #[.bool qb, .slice C1 vs.length d1] 26)).alloc (.cells #[.bool false, .slice none 0 0] 26)) x1) x2 ∧ Lim wx A1 us ∧ Lim wx C1 vs ∧ us.length ≤ c1 ∧ c1 ≤ 9223372036854775807 ∧ vs.length ≤ d1 ∧ d1 ≤ 9223372036854775807)
  case first =>
    go_region_with (first | (go_at_call_of 135 (Value.agg #[.bool an, .slice A n c]); (with_reducible refine (valid_h h1 _ (ha.out.plus (by repeat' (first | exact Plus.refl _ | refine Plus.alloc ?_ _ | refine Plus.plus ?_ _ | refine Plus.drew ?_ | refine Plus.drewN ?_ _)))).mono ?_); rintro e w1 ⟨A1, c1, rfl, q1, q2, q3, ⟨x1, rfl⟩⟩; have Q3 := Lib.hid q3; have Q1 := Lib.hid q1; have Q2 := Lib.hid q2; clear q3 q1 q2) | (go_at_call_of 135 (Value.agg #[.bool bn, .slice C m d]); (with_reducible refine (valid_h h2 _ (hb.out.plus (by repeat' (first | exact Plus.refl _ | refine Plus.alloc ?_ _ | refine Plus.plus ?_ _ | refine Plus.drew ?_ | refine Plus.drewN ?_ _)))).mono ?_); rintro e w1 ⟨C1, d1, rfl, r1, r2, r3, ⟨y1, rfl⟩⟩; have R3 := Lib.hid r3; have R1 := Lib.hid r1; have R2 := Lib.hid r2; clear r3 r1 r2))
    all_goals
      go_wp2_with fail
      go_meet
      have Q4 := Q3.out
      have R4 := R3.out
      simp only [plus_drew] at Q4 R4
      refine ⟨A1, c1, C1, d1, _, _, rfl, ?_, ?_, Q1.out, Q2.out, R1.out, R2.out⟩
      all_goals first | with_reducible exact (Q4.box3 (isBox.mk _ _ _ _ _) (isBox.mk _ _ _ _ _) (isBox.mk _ _ _ _ _)).grow _ | with_reducible exact Q4.box33 (isBox.mk _ _ _ _ _) (isBox.mk _ _ _ _ _) (isBox.mk _ _ _ _ _) | with_reducible exact (R4.box3 (isBox.mk _ _ _ _ _) (isBox.mk _ _ _ _ _) (isBox.mk _ _ _ _ _)).grow _ | with_reducible exact R4.box33 (isBox.mk _ _ _ _ _) (isBox.mk _ _ _ _ _) (isBox.mk _ _ _ _ _)
  case rest =>
    obtain ⟨A1, c1, C1, d1, x1, x2, rfl, hL1, hL2, k1, k2, k3, k4⟩ := hcut
    have L1 := Lib.hid hL1
    have L2 := Lib.hid hL2
    clear hL1 hL2
    by_cases h0 : vs.length = 0
    · have hz : val vs = 0 := by rw [List.eq_nil_of_length_eq_zero h0]; rfl
      have HZ := Lib.hid hz
      clear hz
      rw [h0]
      go_wp2_with fail
      go_returns
      exact RetBigE.zero HZ.out (by repeat' (first | exact Plus.refl _ | refine Plus.alloc ?_ _ | refine Plus.plus ?_ _ | refine Plus.drew ?_ | refine Plus.drewN ?_ _))
    · have h0b : ((vs.length : Int) == 0) = false := by simpa using h0
      have hpos : 0 < val vs := by
        rcases Nat.eq_zero_or_pos (val vs) with hz | hz
        · rw [← h2.out.2, val_dig] at hz
          rw [← h2.out.2, hz, dig_zero] at h0
          exact absurd rfl h0
        · exact hz
      have HP := Lib.hid hpos
      clear hpos
      go_wp2_with (go_at_call 157; (with_reducible refine (divide_c _ _ us vs _ _ _ (by first | exact L1.out | exact Lim.drew L1.out | (have q := L1.out; simp only [plus_drew] at q; exact q) | (have q := L1.out; simp only [plus_drew, size_plus, World.size_alloc, Nat.add_assoc] at q ⊢; exact q) | (have q := L1.out; simp only [plus_drew, size_plus, World.size_alloc, Nat.add_assoc] at q; exact q)) (by first | exact L2.out | exact Lim.drew L2.out | (have q := L2.out; simp only [plus_drew] at q; exact q) | (have q := L2.out; simp only [plus_drew, size_plus, World.size_alloc, Nat.add_assoc] at q ⊢; exact q) | (have q := L2.out; simp only [plus_drew, size_plus, World.size_alloc, Nat.add_assoc] at q; exact q)) (by omega) (by omega) HP.out).mono ?_); rintro e w1 ⟨os, rs, rfl, q1, q2, q3, q4, q5, q6, hB1⟩; obtain ⟨x3, rfl⟩ := Plus.of_below hB1; have Q1 := Lib.hid q1; have Q2 := Lib.hid q2; have Q3 := Lib.hid q3; have Q4 := Lib.hid q4; have Q5 := Lib.hid q5; have Q6 := Lib.hid q6; clear q1 q2 q3 q4 q5 q6 hB1)
      refine (made_c _ _ rs _ _ _ (by have q := Q2.out.toLim; simp only [size_plus, World.size_alloc] at q; exact q) rfl (Nat.le_refl _) (by have := Q6.out; omega)).mono ?_
      rintro e w1 ⟨A3, c3, rfl, r1, r2, r3, ⟨x4, rfl⟩⟩
      rw [Q4.out] at r1 r3 ⊢
      have R1 := Lib.hid r1
      have R3 := Lib.hid r3
      clear r1 r3
      go_wp2_with fail
      go_returns
      refine ⟨A3, c3, _, 0, rfl, by rw [if_neg (Nat.ne_of_gt HP.out)], by rw [if_neg (Nat.ne_of_gt HP.out)], R1.out, r2, ?_, ?_⟩
      · have q := R3.out
        simp only [plus_add] at q ⊢
        exact q.res
      · repeat' (first | exact Plus.refl _ | refine Plus.alloc ?_ _ | refine Plus.plus ?_ _ | refine Plus.drew ?_ | refine Plus.drewN ?_ _)

end Go.Proofs.YtgljfgkkolfnbaaGreatDoor.Bg
