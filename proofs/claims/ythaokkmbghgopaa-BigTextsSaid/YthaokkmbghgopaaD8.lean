/- The document's BigInts: Neg. -/
import Derived.Test.YthaokkmbghgopaaD7
namespace Go.Proofs.Ythaokkmbghgopaa
open Go.RowKit


set_option maxRecDepth 100000 in
set_option maxHeartbeats 4000000 in
theorem rneg_h (an p : Bool) (A : Option Addr) (xs us : List Nat) (n c V : Nat) (R : Int) (w : World) (ha : Hid (Arg w A xs n c)) (h1 : Hid (decide (bigI an xs < 0) = p ∧ dig (bigI an xs).natAbs = us)) (hV : Hid (val us = V)) (HU : Hid (us.length ≤ 8)) (HN : Hid (sgn (!p) V = R)) :
    Calls Try.prog 33 #[.agg #[.bool an, .slice A n c]] w (RetBig R w) := by
  go_enter Try.func33, Try.ntmps33
  go_wp2_with fail
  refine (rgood_h h1 _ (ha.out.plus (by repeat' (first | exact Plus.refl _ | refine Plus.alloc ?_ _ | refine Plus.plus ?_ _ | refine Plus.drew ?_ | refine Plus.drewN ?_ _)))).mono ?_
  rintro e w1 ⟨A1, c1, rfl, q1, q2, q3, ⟨x1, rfl⟩⟩
  have Q1 := Lib.hid q1
  have Q3 := Lib.hid q3
  clear q1 q3
  go_wp2_with fail
  refine (rmade_c (!p) A1 us us.length c1 _ (Q3.out.plus (by repeat' (first | exact Plus.refl _ | refine Plus.alloc ?_ _ | refine Plus.plus ?_ _ | refine Plus.drew ?_ | refine Plus.drewN ?_ _))) rfl Q1.out q2 (by have := HU.out; omega)).mono ?_
  rintro e w1 ⟨A3, c3, rfl, r1, r2, r3, ⟨x2, rfl⟩⟩
  rw [hV.out, HN.out] at r1 r3 ⊢
  have HR := Lib.hid r3
  have HR1 := Lib.hid r1
  clear r3 r1
  go_wp2_with fail
  go_returns
  refine ⟨A3, c3, rfl, HR1.out, r2, ?_, (by repeat' (first | exact Plus.refl _ | refine Plus.alloc ?_ _ | refine Plus.plus ?_ _ | refine Plus.drew ?_ | refine Plus.drewN ?_ _))⟩
  have r4 := HR.out
  simp only [alloc_plus, plus_add] at r4 ⊢
  exact r4.res
theorem rneg_c {an : Bool} {A : Option Addr} {xs : List Nat} {n c : Nat} (w : World) (ha : Arg w A xs n c) : Calls Try.prog 33 #[.agg #[.bool an, .slice A n c]] w (RetBig (-(bigI an xs)) w) := by
  have hab : (bigI an xs).natAbs < B ^ 8 := bigI_abs ha.lim.1
  refine rneg_h an _ A xs _ n c (bigI an xs).natAbs _ w (Lib.hid ha) (Lib.hid ⟨rfl, rfl⟩) (Lib.hid (val_dig _)) (Lib.hid (dig_len_le hab)) (Lib.hid ?_)
  by_cases h : bigI an xs < 0
  · rw [decide_eq_true h]
    show sgn false _ = _
    rw [sgn_fa]
    omega
  · rw [decide_eq_false h]
    show sgn true _ = _
    rw [sgn_tr]
    omega
section
variable {pb : Bool} {us : List Nat} {r : Int}
theorem rneg_n {an : Bool} {A : Option Addr} {xs : List Nat} {n c : Nat} {a : Int} (hA : Hid (bigI an xs = a)) (hr : Hid (NegN a r pb us)) (w : World) (ha : Arg w A xs n c) : Calls Try.prog 33 #[.agg #[.bool an, .slice A n c]] w fun e w' => ∃ (A1 : Option Addr) (c1 : Nat), e = .returned (.agg #[.bool pb, .slice A1 us.length c1]) ∧ Arg w' A1 us us.length c1 ∧ Plus w w' := by
  obtain ⟨h1, rfl⟩ := hr.out
  have h := rneg_c (an := an) w ha
  rw [hA.out] at h
  exact h.mono fun _ _ h => h.n h1
end
end Go.Proofs.Ythaokkmbghgopaa
