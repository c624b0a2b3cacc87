/- The walk of BigInts, at every two ints. -/
import Derived.IntWalk
import Derived.Test.YthaokkmbghgopaaL13m
import Derived.Test.YthaokkmbghgopaaL13a
import Derived.Test.YthaokkmbghgopaaL13b
import Derived.Test.YthaokkmbghgopaaL13c
namespace Go.Proofs.Ythaokkmbghgopaa
open Go.RowKit


theorem sm (a : Int) : SameI a a true := decide_eq_true rfl
set_option maxRecDepth 100000 in
set_option maxHeartbeats 4000000 in
theorem ints_few (p q : Int) (w : World) (hf : ¬ (-1073741824 ≤ p ∧ p ≤ 1073741824 ∧ -1073741824 ≤ q ∧ q ≤ 1073741824)) : Calls Try.prog 13 #[.int .i64 p, .int .i64 q] w fun e w' => e = .returned (.bool true) ∧ Plus w w' := by
  have h3 : p < -1073741824 ∨ (-1073741824 ≤ p ∧ 1073741824 < p) ∨ (-1073741824 ≤ p ∧ p ≤ 1073741824 ∧ q < -1073741824) ∨ (-1073741824 ≤ p ∧ p ≤ 1073741824 ∧ -1073741824 ≤ q ∧ 1073741824 < q) := by omega
  clear hf
  rcases h3 with f2 | ⟨f2, f3⟩ | ⟨f2, f3, f4⟩ | ⟨f2, f3, f4, f5⟩
  all_goals
    go_enter Try.func13, Try.ntmps13
    go_wp2_with fail
    refine (first_c _).mono ?_
    rintro e w1 ⟨rfl, ⟨y0, rfl⟩⟩
    go_wp2_with fail
    refine (first_c _).mono ?_
    rintro e w1 ⟨rfl, ⟨y1, rfl⟩⟩
    go_wp2_with fail
    go_returns
    exact ⟨rfl, (by repeat' (first | exact Plus.refl _ | refine Plus.alloc ?_ _ | refine Plus.plus ?_ _ | refine Plus.drew ?_ | refine Plus.drewN ?_ _))⟩
set_option maxHeartbeats 4000000 in
theorem ints_w (p q : Int) (w : World) : Calls Try.prog 13 #[.int .i64 p, .int .i64 q] w fun e w' => e = .returned (.bool true) ∧ Plus w w' := by
  by_cases hf : -1073741824 ≤ p ∧ p ≤ 1073741824 ∧ -1073741824 ≤ q ∧ q ≤ 1073741824
  · obtain ⟨f1, f2, f3, f4⟩ := hf
    have hb := mul_bd f1 f2 f3 f4
    obtain ⟨z, hz⟩ : ∃ z, p * q = z := ⟨_, rfl⟩
    rw [hz] at hb
    have P := of_mk (z := p) (by omega) (by omega)
    have Q := of_mk (z := q) (by omega) (by omega)
    have OA := of_mk (z := p + q) (by omega) (by omega)
    have OS := of_mk (z := p - q) (by omega) (by omega)
    have OM := of_mk (z := z) (by omega) (by omega)
    have A : AddN p q (p + q) true _ _ := ⟨Nm.mk' (b8 (by omega)), (decide_eq_true (b8 (by omega))).symm, (if_pos (b8 (by omega))).symm⟩
    have S : SubN p q (p - q) true _ _ := ⟨Nm.mk' (b8 (by omega)), (decide_eq_true (b8 (by omega))).symm, (if_pos (b8 (by omega))).symm⟩
    have M : MulN p q z true _ _ := ⟨Nm.mk' (b8 (by omega)), by rw [hz]; exact (decide_eq_true (b8 (by omega))).symm, by rw [hz]; exact (if_pos (b8 (by omega))).symm⟩
    obtain ⟨er, k, l, D, R, hw4, hE, k1, l1⟩ : ∃ er k l, DivN p q k er (decide (k < 0)) (dig k.natAbs) ∧ RemN p q l er (decide (l < 0)) (dig l.natAbs) ∧ IntKind.i64.wrap (p.tdiv q) = k ∧ ((q = 0 ∧ er = 4) ∨ ((q == 0) = false ∧ ¬ q = 0 ∧ er = 0 ∧ p.tmod q = l)) ∧ (-1073741824 ≤ k ∧ k ≤ 1073741824) ∧ (-1073741824 ≤ l ∧ l ≤ 1073741824) := by
      have d := div_bd (q := q) f1 f2
      have r := mod_bd (q := q) f1 f2
      by_cases hq : q = 0
      · refine ⟨4, 0, 0, ⟨Nm.mk' (by decide), by rw [hq]; rfl, by rw [hq]; rfl⟩, ⟨Nm.mk' (by decide), by rw [hq]; rfl, by rw [hq]; rfl⟩, ?_, .inl ⟨hq, rfl⟩, by omega, by omega⟩
        rw [hq, Int.tdiv_zero]
        exact IntWalk.i64_in _ (by omega)
      · have h0 : ¬ q.natAbs = 0 := by omega
        refine ⟨0, p.tdiv q, p.tmod q, ⟨Nm.mk' (b8 (by omega)), (if_neg h0).symm, (if_neg h0).symm⟩, ⟨Nm.mk' (b8 (by omega)), (if_neg h0).symm, (if_neg h0).symm⟩, IntWalk.i64_in _ (by omega), .inr ⟨by simpa using hq, hq, rfl, rfl⟩, d, r⟩
    have OK := of_mk (z := k) (by omega) (by omega)
    have OL := of_mk (z := l) (by omega) (by omega)
    rcases Int.lt_trichotomy p q with c | c | c
    · exact ints_lt p q p q (p + q) (p - q) z (p + q) (p - q) z k l er k l _ _ _ _ _ _ _ _ _ _ _ _ _ _ _ _ _ _ _ _ _ _ _ _ _ w f1 f2 f3 f4 c (IntWalk.i64_in _ (by omega)) (IntWalk.i64_in _ (by omega)) (by rw [hz]; exact IntWalk.i64_in _ (by omega))
          (Lib.hid P) (Lib.hid P.1.val) (Lib.hid Q) (Lib.hid Q.1.val) (Lib.hid A) (Lib.hid A.1.val) (Lib.hid S) (Lib.hid S.1.val) (Lib.hid M) (Lib.hid M.1.val) (Lib.hid OA) (Lib.hid OA.1.val) (Lib.hid OS) (Lib.hid OS.1.val) (Lib.hid OM) (Lib.hid OM.1.val) (Lib.hid (sm _)) (Lib.hid (sm _)) (Lib.hid (sm _)) (Lib.hid (cmpZ_lt c))
          (Lib.hid (by rw [txt_itoa])) (Lib.hid (ref_dec p (by omega) (by omega))) (Lib.hid D) (Lib.hid D.1.val) (Lib.hid R) (Lib.hid R.1.val) hw4 (Lib.hid OK) (Lib.hid OK.1.val) (Lib.hid OL) (Lib.hid OL.1.val) (Lib.hid (sm _)) (Lib.hid (sm _)) hE
    · exact ints_eq p q p q (p + q) (p - q) z (p + q) (p - q) z k l er k l _ _ _ _ _ _ _ _ _ _ _ _ _ _ _ _ _ _ _ _ _ _ _ _ _ w f1 f2 f3 f4 (by omega) (IntWalk.i64_in _ (by omega)) (IntWalk.i64_in _ (by omega)) (by rw [hz]; exact IntWalk.i64_in _ (by omega))
          (Lib.hid P) (Lib.hid P.1.val) (Lib.hid Q) (Lib.hid Q.1.val) (Lib.hid A) (Lib.hid A.1.val) (Lib.hid S) (Lib.hid S.1.val) (Lib.hid M) (Lib.hid M.1.val) (Lib.hid OA) (Lib.hid OA.1.val) (Lib.hid OS) (Lib.hid OS.1.val) (Lib.hid OM) (Lib.hid OM.1.val) (Lib.hid (sm _)) (Lib.hid (sm _)) (Lib.hid (sm _)) (Lib.hid (by subst c; exact cmpZ_self _))
          (Lib.hid (by rw [txt_itoa])) (Lib.hid (ref_dec p (by omega) (by omega))) (Lib.hid D) (Lib.hid D.1.val) (Lib.hid R) (Lib.hid R.1.val) hw4 (Lib.hid OK) (Lib.hid OK.1.val) (Lib.hid OL) (Lib.hid OL.1.val) (Lib.hid (sm _)) (Lib.hid (sm _)) hE
    · exact ints_gt p q p q (p + q) (p - q) z (p + q) (p - q) z k l er k l _ _ _ _ _ _ _ _ _ _ _ _ _ _ _ _ _ _ _ _ _ _ _ _ _ w f1 f2 f3 f4 (by omega) (IntWalk.i64_in _ (by omega)) (IntWalk.i64_in _ (by omega)) (by rw [hz]; exact IntWalk.i64_in _ (by omega))
          (Lib.hid P) (Lib.hid P.1.val) (Lib.hid Q) (Lib.hid Q.1.val) (Lib.hid A) (Lib.hid A.1.val) (Lib.hid S) (Lib.hid S.1.val) (Lib.hid M) (Lib.hid M.1.val) (Lib.hid OA) (Lib.hid OA.1.val) (Lib.hid OS) (Lib.hid OS.1.val) (Lib.hid OM) (Lib.hid OM.1.val) (Lib.hid (sm _)) (Lib.hid (sm _)) (Lib.hid (sm _)) (Lib.hid (cmpZ_gt c))
          (Lib.hid (by rw [txt_itoa])) (Lib.hid (ref_dec p (by omega) (by omega))) (Lib.hid D) (Lib.hid D.1.val) (Lib.hid R) (Lib.hid R.1.val) hw4 (Lib.hid OK) (Lib.hid OK.1.val) (Lib.hid OL) (Lib.hid OL.1.val) (Lib.hid (sm _)) (Lib.hid (sm _)) hE
  · exact ints_few p q w hf
end Go.Proofs.Ythaokkmbghgopaa
