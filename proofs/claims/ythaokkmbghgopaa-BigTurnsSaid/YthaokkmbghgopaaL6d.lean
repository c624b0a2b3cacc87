/- BigTurns: words; few limbs. -/
import Derived.Deep.RegionHeld3
import Derived.Test.YthaokkmbghgopaaC28
namespace Go.Proofs.Ythaokkmbghgopaa
open Go.RowKit


def CmpN (a b v : Int) : Prop := cmpZ a b = v
def SameN (a b : Int) (v : Bool) : Prop := decide (a = b) = v
theorem cmp_m {an bn : Bool} {A C : Option Addr} {xs ys : List Nat} {n c m d : Nat} {a b : Int} (hA : Hid (bigI an xs = a)) (hB : Hid (bigI bn ys = b)) {v : Int} (hr : Hid (CmpN a b v)) (w : World) (ha : Arg w A xs n c) (hb : Arg w C ys m d) : Calls Try.prog 28 #[.agg #[.bool an, .slice A n c], .agg #[.bool bn, .slice C m d]] w fun e w' => e = .returned (.int .i64 v) ∧ Plus w w' := cmp_n hA hB hr w ha hb
theorem same_m {an bn : Bool} {A C : Option Addr} {xs ys : List Nat} {n c m d : Nat} {a b : Int} (hA : Hid (bigI an xs = a)) (hB : Hid (bigI bn ys = b)) {v : Bool} (hr : Hid (SameN a b v)) (w : World) (ha : Arg w A xs n c) (hb : Arg w C ys m d) : Calls Try.prog 30 #[.agg #[.bool an, .slice A n c], .agg #[.bool bn, .slice C m d]] w fun e w' => e = .returned (.bool v) ∧ Plus w w' := same_n hA hB hr w ha hb
theorem Arg.b1 {w : World} {x : More} {A : Option Addr} {xs : List Nat} {n c : Nat} {o1 o2 p1 p2 : Obj} (h : Arg (_root_.Go.Proofs.Ythaokkmbghgopaa.plus ((w.alloc o1).alloc o2) x) A xs n c) (h1 : isBox o1) (h2 : isBox o2) : Arg (_root_.Go.Proofs.Ythaokkmbghgopaa.plus ((w.alloc p1).alloc p2) x) A xs n c := ⟨h.lim.box2 h1 h2, h.len, h.few, h.cap, h.max⟩
theorem Arg.b3 {w : World} {x y z : More} {A : Option Addr} {xs : List Nat} {n c : Nat} {o1 o2 p1 p2 : Obj} (h : Arg (_root_.Go.Proofs.Ythaokkmbghgopaa.plus (_root_.Go.Proofs.Ythaokkmbghgopaa.plus (_root_.Go.Proofs.Ythaokkmbghgopaa.plus ((w.alloc o1).alloc o2) x) y) z) A xs n c) (h1 : isBox o1) (h2 : isBox o2) : Arg (_root_.Go.Proofs.Ythaokkmbghgopaa.plus (_root_.Go.Proofs.Ythaokkmbghgopaa.plus (_root_.Go.Proofs.Ythaokkmbghgopaa.plus ((w.alloc p1).alloc p2) x) y) z) A xs n c := by
  rw [plus_add, plus_add] at h ⊢
  exact h.b1 h1 h2
theorem Arg.b4 {w : World} {x y z v : More} {A : Option Addr} {xs : List Nat} {n c : Nat} {o1 o2 p1 p2 : Obj} (h : Arg (_root_.Go.Proofs.Ythaokkmbghgopaa.plus (_root_.Go.Proofs.Ythaokkmbghgopaa.plus (_root_.Go.Proofs.Ythaokkmbghgopaa.plus (_root_.Go.Proofs.Ythaokkmbghgopaa.plus ((w.alloc o1).alloc o2) x) y) z) v) A xs n c) (h1 : isBox o1) (h2 : isBox o2) : Arg (_root_.Go.Proofs.Ythaokkmbghgopaa.plus (_root_.Go.Proofs.Ythaokkmbghgopaa.plus (_root_.Go.Proofs.Ythaokkmbghgopaa.plus (_root_.Go.Proofs.Ythaokkmbghgopaa.plus ((w.alloc p1).alloc p2) x) y) z) v) A xs n c := by
  rw [plus_add, plus_add, plus_add] at h ⊢
  exact h.b1 h1 h2

set_option maxRecDepth 100000 in
set_option maxHeartbeats 4000000 in
theorem turns_few (an : Bool) (A : Option Addr) (n c : Nat) (bn : Bool) (C : Option Addr) (m d : Nat) (w : World) (hf : ¬ (n ≤ 40 ∧ m ≤ 40)) :
    Calls Try.prog 6 #[.agg #[.bool an, .slice A n c], .agg #[.bool bn, .slice C m d]] w fun e w' => e = .returned (.bool true) ∧ Plus w w' := by
  obtain ⟨v1, e1⟩ : ∃ v, decide (n ≤ 40) = v := ⟨_, rfl⟩
  obtain ⟨v2, e2⟩ : ∃ v, decide (m ≤ 40) = v := ⟨_, rfl⟩
  have hff : ¬ (v1 = true ∧ v2 = true) := fun ⟨q1, q2⟩ => hf (by
    subst q1 q2
    exact ⟨of_decide_eq_true e1, of_decide_eq_true e2⟩)
  have E1 := Lib.hid e1
  have E2 := Lib.hid e2
  clear e1 e2 hf
  go_enter Try.func6, Try.ntmps6
  go_wp2_with fail
  refine (first_c _).mono ?_
  rintro e w1 ⟨rfl, ⟨y0, rfl⟩⟩
  go_wp2_with fail
  refine (few_c E1 _).mono ?_
  rintro e w1 ⟨rfl, ⟨y1, rfl⟩⟩
  cases v1
  · go_wp2_with fail
    refine (first_c _).mono ?_
    rintro e w1 ⟨rfl, ⟨y2, rfl⟩⟩
    go_wp2_with fail
    go_ret
    exact ⟨rfl, (by repeat' (first | exact Plus.refl _ | refine Plus.alloc ?_ _ | refine Plus.plus ?_ _ | refine Plus.drew ?_ | refine Plus.drewN ?_ _))⟩
  go_wp2_with fail
  refine (few_c E2 _).mono ?_
  rintro e w1 ⟨rfl, ⟨y2, rfl⟩⟩
  cases v2
  · go_wp2_with fail
    refine (first_c _).mono ?_
    rintro e w1 ⟨rfl, ⟨y3, rfl⟩⟩
    go_wp2_with fail
    go_ret
    exact ⟨rfl, (by repeat' (first | exact Plus.refl _ | refine Plus.alloc ?_ _ | refine Plus.plus ?_ _ | refine Plus.drew ?_ | refine Plus.drewN ?_ _))⟩
  · exact (hff (by simp)).elim
end Go.Proofs.Ythaokkmbghgopaa
