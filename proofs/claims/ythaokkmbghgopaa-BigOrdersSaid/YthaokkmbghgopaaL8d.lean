/- The walk of BigOrders. -/
import Derived.Deep.RegionHeld3
import Derived.Test.YthaokkmbghgopaaC28
namespace Go.Proofs.Ythaokkmbghgopaa
open Go.RowKit


def CmpN (a b v : Int) : Prop := cmpZ a b = v
def SameN (a b : Int) (v : Bool) : Prop := decide (a = b) = v
theorem cmp_m {an bn : Bool} {A C : Option Addr} {xs ys : List Nat} {n c m d : Nat} {a b : Int} (hA : Hid (bigI an xs = a)) (hB : Hid (bigI bn ys = b)) {v : Int} (hr : Hid (CmpN a b v)) (w : World) (ha : Arg w A xs n c) (hb : Arg w C ys m d) : Calls Try.prog 28 #[.agg #[.bool an, .slice A n c], .agg #[.bool bn, .slice C m d]] w fun e w' => e = .returned (.int .i64 v) ∧ Plus w w' := cmp_n hA hB hr w ha hb
theorem same_m {an bn : Bool} {A C : Option Addr} {xs ys : List Nat} {n c m d : Nat} {a b : Int} (hA : Hid (bigI an xs = a)) (hB : Hid (bigI bn ys = b)) {v : Bool} (hr : Hid (SameN a b v)) (w : World) (ha : Arg w A xs n c) (hb : Arg w C ys m d) : Calls Try.prog 30 #[.agg #[.bool an, .slice A n c], .agg #[.bool bn, .slice C m d]] w fun e w' => e = .returned (.bool v) ∧ Plus w w' := same_n hA hB hr w ha hb

set_option maxRecDepth 100000 in
set_option maxHeartbeats 4000000 in
theorem orders_few (an : Bool) (A : Option Addr) (n c : Nat) (bn : Bool) (C : Option Addr) (m d : Nat) (kn : Bool) (E : Option Addr) (k l : Nat) (w : World) (hf : ¬ (n ≤ 40 ∧ m ≤ 40 ∧ k ≤ 40)) :
    Calls Try.prog 8 #[.agg #[.bool an, .slice A n c], .agg #[.bool bn, .slice C m d], .agg #[.bool kn, .slice E k l]] w fun e w' => e = .returned (.bool true) ∧ Plus w w' := by
  obtain ⟨v1, e1⟩ : ∃ v, decide (n ≤ 40) = v := ⟨_, rfl⟩
  obtain ⟨v2, e2⟩ : ∃ v, decide (m ≤ 40) = v := ⟨_, rfl⟩
  obtain ⟨v3, e3⟩ : ∃ v, decide (k ≤ 40) = v := ⟨_, rfl⟩
  have hff : ¬ (v1 = true ∧ v2 = true ∧ v3 = true) := fun ⟨q1, q2, q3⟩ => hf (by
    subst q1 q2 q3
    exact ⟨of_decide_eq_true e1, of_decide_eq_true e2, of_decide_eq_true e3⟩)
  have E1 := Lib.hid e1
  have E2 := Lib.hid e2
  have E3 := Lib.hid e3
  clear e1 e2 e3 hf
  go_enter Try.func8, Try.ntmps8
  go_wp2_with fail
  refine (first_c _).mono ?_
  rintro e w1 ⟨rfl, ⟨y0, rfl⟩⟩
  go_wp2_with fail
  refine (few_c E1 _).mono ?_
  rintro e w1 ⟨rfl, ⟨y1, rfl⟩⟩
  cases v1
  · go_wp2_with fail
    refine (first_c _).mono ?_
    rintro e w1 ⟨rfl, ⟨q, rfl⟩⟩
    go_wp2_with fail
    go_ret
    exact ⟨rfl, (by repeat' (first | exact Plus.refl _ | refine Plus.alloc ?_ _ | refine Plus.plus ?_ _ | refine Plus.drew ?_ | refine Plus.drewN ?_ _))⟩
  go_wp2_with fail
  refine (few_c E2 _).mono ?_
  rintro e w1 ⟨rfl, ⟨y2, rfl⟩⟩
  cases v2
  · go_wp2_with fail
    refine (first_c _).mono ?_
    rintro e w1 ⟨rfl, ⟨q, rfl⟩⟩
    go_wp2_with fail
    go_ret
    exact ⟨rfl, (by repeat' (first | exact Plus.refl _ | refine Plus.alloc ?_ _ | refine Plus.plus ?_ _ | refine Plus.drew ?_ | refine Plus.drewN ?_ _))⟩
  go_wp2_with fail
  refine (few_c E3 _).mono ?_
  rintro e w1 ⟨rfl, ⟨y3, rfl⟩⟩
  cases v3
  · go_wp2_with fail
    refine (first_c _).mono ?_
    rintro e w1 ⟨rfl, ⟨q, rfl⟩⟩
    go_wp2_with fail
    go_ret
    exact ⟨rfl, (by repeat' (first | exact Plus.refl _ | refine Plus.alloc ?_ _ | refine Plus.plus ?_ _ | refine Plus.drew ?_ | refine Plus.drewN ?_ _))⟩
  · exact (hff (by simp)).elim
end Go.Proofs.Ythaokkmbghgopaa
