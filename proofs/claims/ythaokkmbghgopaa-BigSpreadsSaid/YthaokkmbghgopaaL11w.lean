/- The walk of BigSpreads. -/
import Derived.Test.YthaokkmbghgopaaC28
namespace Go.Proofs.Ythaokkmbghgopaa
open Go.RowKit


set_option maxRecDepth 100000 in
set_option maxHeartbeats 16000000 in
theorem spreads_h (an : Bool) (A : Option Addr) (xs : List Nat) (n c : Nat) (bn : Bool) (C : Option Addr) (ys : List Nat) (m d : Nat) (kn : Bool) (E : Option Addr) (zs : List Nat) (k l : Nat) (a b g : Int) (s p q r t : Int) (o1 o2 o3 o4 o5 b1 b2 b3 b4 b5 v : Bool) (u1 u2 u3 u4 u5 : List Nat) (w : World) (ha : Hid (Arg w A xs n c)) (hb : Hid (Arg w C ys m d)) (hc : Hid (Arg w E zs k l))
    (ga : Hid (bigI an xs = a)) (gb : Hid (bigI bn ys = b)) (gc : Hid (bigI kn zs = g)) (f1 : Hid (decide (n ≤ 40) = true)) (f2 : Hid (decide (m ≤ 40) = true)) (f3 : Hid (decide (k ≤ 40) = true))
    (h1 : Hid (AddN b g s o1 b1 u1)) (g1 : Hid (bigI b1 u1 = s)) (h2 : Hid (MulN a s p o2 b2 u2)) (g2 : Hid (bigI b2 u2 = p)) (h3 : Hid (MulN a b q o3 b3 u3)) (g3 : Hid (bigI b3 u3 = q)) (h4 : Hid (MulN a g r o4 b4 u4)) (g4 : Hid (bigI b4 u4 = r)) (h5 : Hid (AddN q r t o5 b5 u5)) (g5 : Hid (bigI b5 u5 = t)) (hv : Hid (decide (p = t) = v))
    (hfin : Hid (o1 = true → o2 = true → o3 = true → o4 = true → o5 = true → v = true)) :
    Calls Try.prog 11 #[.agg #[.bool an, .slice A n c], .agg #[.bool bn, .slice C m d], .agg #[.bool kn, .slice E k l]] w fun e w' => e = .returned (.bool true) ∧ Plus w w' := by
  go_enter Try.func11, Try.ntmps11
  go_wp2_with fail
  refine (first_c _).mono ?_
  rintro e w1 ⟨rfl, ⟨y0, rfl⟩⟩
  go_wp2_with fail
  refine (few_c f1 _).mono ?_
  rintro e w1 ⟨rfl, ⟨y1, rfl⟩⟩
  go_wp2_with fail
  refine (few_c f2 _).mono ?_
  rintro e w1 ⟨rfl, ⟨y2, rfl⟩⟩
  go_wp2_with fail
  refine (few_c f3 _).mono ?_
  rintro e w1 ⟨rfl, ⟨y3, rfl⟩⟩
  go_wp2_with fail
  refine (add_n gb gc h1 _ (hb.out.plus (by repeat' (first | exact Plus.refl _ | refine Plus.alloc ?_ _ | refine Plus.plus ?_ _ | refine Plus.drew ?_ | refine Plus.drewN ?_ _))) (hc.out.plus (by repeat' (first | exact Plus.refl _ | refine Plus.alloc ?_ _ | refine Plus.plus ?_ _ | refine Plus.drew ?_ | refine Plus.drewN ?_ _)))).mono ?_
  rintro e w1 ⟨A1, c1, rfl, a1, ⟨x1, rfl⟩⟩
  replace a1 := Lib.hid a1
  go_wp2_with fail
  refine (mul_n ga g1 h2 _ (ha.out.plus (by repeat' (first | exact Plus.refl _ | refine Plus.alloc ?_ _ | refine Plus.plus ?_ _ | refine Plus.drew ?_ | refine Plus.drewN ?_ _))) (a1.out.plus (by repeat' (first | exact Plus.refl _ | refine Plus.alloc ?_ _ | refine Plus.plus ?_ _ | refine Plus.drew ?_ | refine Plus.drewN ?_ _)))).mono ?_
  rintro e w1 ⟨A2, c2, rfl, a2, ⟨x2, rfl⟩⟩
  replace a2 := Lib.hid a2
  go_wp2_with fail
  refine (mul_n ga gb h3 _ (ha.out.plus (by repeat' (first | exact Plus.refl _ | refine Plus.alloc ?_ _ | refine Plus.plus ?_ _ | refine Plus.drew ?_ | refine Plus.drewN ?_ _))) (hb.out.plus (by repeat' (first | exact Plus.refl _ | refine Plus.alloc ?_ _ | refine Plus.plus ?_ _ | refine Plus.drew ?_ | refine Plus.drewN ?_ _)))).mono ?_
  rintro e w1 ⟨A3, c3, rfl, a3, ⟨x3, rfl⟩⟩
  replace a3 := Lib.hid a3
  go_wp2_with fail
  refine (mul_n ga gc h4 _ (ha.out.plus (by repeat' (first | exact Plus.refl _ | refine Plus.alloc ?_ _ | refine Plus.plus ?_ _ | refine Plus.drew ?_ | refine Plus.drewN ?_ _))) (hc.out.plus (by repeat' (first | exact Plus.refl _ | refine Plus.alloc ?_ _ | refine Plus.plus ?_ _ | refine Plus.drew ?_ | refine Plus.drewN ?_ _)))).mono ?_
  rintro e w1 ⟨A4, c4, rfl, a4, ⟨x4, rfl⟩⟩
  replace a4 := Lib.hid a4
  go_wp2_with fail
  refine (add_n g3 g4 h5 _ (a3.out.plus (by repeat' (first | exact Plus.refl _ | refine Plus.alloc ?_ _ | refine Plus.plus ?_ _ | refine Plus.drew ?_ | refine Plus.drewN ?_ _))) (a4.out.plus (by repeat' (first | exact Plus.refl _ | refine Plus.alloc ?_ _ | refine Plus.plus ?_ _ | refine Plus.drew ?_ | refine Plus.drewN ?_ _)))).mono ?_
  rintro e w1 ⟨A5, c5, rfl, a5, ⟨x5, rfl⟩⟩
  replace a5 := Lib.hid a5
  go_wp2_with fail
  refine (first_c _).mono ?_
  rintro e w1 ⟨rfl, ⟨y4, rfl⟩⟩
  cases o1
  · go_wp2_with fail
    go_ret
    exact ⟨rfl, (by repeat' (first | exact Plus.refl _ | refine Plus.alloc ?_ _ | refine Plus.plus ?_ _ | refine Plus.drew ?_ | refine Plus.drewN ?_ _))⟩
  cases o2
  · go_wp2_with fail
    go_ret
    exact ⟨rfl, (by repeat' (first | exact Plus.refl _ | refine Plus.alloc ?_ _ | refine Plus.plus ?_ _ | refine Plus.drew ?_ | refine Plus.drewN ?_ _))⟩
  cases o3
  · go_wp2_with fail
    go_ret
    exact ⟨rfl, (by repeat' (first | exact Plus.refl _ | refine Plus.alloc ?_ _ | refine Plus.plus ?_ _ | refine Plus.drew ?_ | refine Plus.drewN ?_ _))⟩
  cases o4
  · go_wp2_with fail
    go_ret
    exact ⟨rfl, (by repeat' (first | exact Plus.refl _ | refine Plus.alloc ?_ _ | refine Plus.plus ?_ _ | refine Plus.drew ?_ | refine Plus.drewN ?_ _))⟩
  cases o5
  · go_wp2_with fail
    go_ret
    exact ⟨rfl, (by repeat' (first | exact Plus.refl _ | refine Plus.alloc ?_ _ | refine Plus.plus ?_ _ | refine Plus.drew ?_ | refine Plus.drewN ?_ _))⟩
  obtain rfl : v = true := hfin.out rfl rfl rfl rfl rfl
  go_wp2_with fail
  refine (same_n g2 g5 hv _ (a2.out.plus (by repeat' (first | exact Plus.refl _ | refine Plus.alloc ?_ _ | refine Plus.plus ?_ _ | refine Plus.drew ?_ | refine Plus.drewN ?_ _))) (a5.out.plus (by repeat' (first | exact Plus.refl _ | refine Plus.alloc ?_ _ | refine Plus.plus ?_ _ | refine Plus.drew ?_ | refine Plus.drewN ?_ _)))).mono ?_
  rintro e w1 ⟨rfl, ⟨y5, rfl⟩⟩
  go_wp2_with fail
  go_ret
  exact ⟨rfl, (by repeat' (first | exact Plus.refl _ | refine Plus.alloc ?_ _ | refine Plus.plus ?_ _ | refine Plus.drew ?_ | refine Plus.drewN ?_ _))⟩

theorem spreads_few (an : Bool) (A : Option Addr) (n c : Nat) (bn : Bool) (C : Option Addr) (m d : Nat) (kn : Bool) (E : Option Addr) (k l : Nat) (w : World) (hf : ¬ (n ≤ 40 ∧ m ≤ 40 ∧ k ≤ 40)) :
    Calls Try.prog 11 #[.agg #[.bool an, .slice A n c], .agg #[.bool bn, .slice C m d], .agg #[.bool kn, .slice E k l]] w fun e w' => e = .returned (.bool true) ∧ Plus w w' := by
  obtain ⟨v1, e1⟩ : ∃ v, decide (n ≤ 40) = v := ⟨_, rfl⟩
  obtain ⟨v2, e2⟩ : ∃ v, decide (m ≤ 40) = v := ⟨_, rfl⟩
  obtain ⟨v3, e3⟩ : ∃ v, decide (k ≤ 40) = v := ⟨_, rfl⟩
  have hff : ¬ (v1 = true ∧ v2 = true ∧ v3 = true) := fun ⟨q1, q2, q3⟩ => hf (by
    subst q1 q2 q3
    exact ⟨of_decide_eq_true e1, of_decide_eq_true e2, of_decide_eq_true e3⟩)
  have E1 := Lib.hid e1
  have E2 := Lib.hid e2
  have E3 := Lib.hid e3
  clear e1 e2 e3 hf
  go_enter Try.func11, Try.ntmps11
  go_wp2_with fail
  refine (first_c _).mono ?_
  rintro e w1 ⟨rfl, ⟨y0, rfl⟩⟩
  go_wp2_with fail
  refine (few_c E1 _).mono ?_
  rintro e w1 ⟨rfl, ⟨y1, rfl⟩⟩
  cases v1
  · go_wp2_with fail
    refine (first_c _).mono ?_
    rintro e w1 ⟨rfl, ⟨y2, rfl⟩⟩
    go_wp2_with fail
    go_ret
    exact ⟨rfl, (by repeat' (first | exact Plus.refl _ | refine Plus.alloc ?_ _ | refine Plus.plus ?_ _ | refine Plus.drew ?_ | refine Plus.drewN ?_ _))⟩
  go_wp2_with fail
  refine (few_c E2 _).mono ?_
  rintro e w1 ⟨rfl, ⟨y2, rfl⟩⟩
  cases v2
  · go_wp2_with fail
    refine (first_c _).mono ?_
    rintro e w1 ⟨rfl, ⟨y3, rfl⟩⟩
    go_wp2_with fail
    go_ret
    exact ⟨rfl, (by repeat' (first | exact Plus.refl _ | refine Plus.alloc ?_ _ | refine Plus.plus ?_ _ | refine Plus.drew ?_ | refine Plus.drewN ?_ _))⟩
  go_wp2_with fail
  refine (few_c E3 _).mono ?_
  rintro e w1 ⟨rfl, ⟨y3, rfl⟩⟩
  cases v3
  · go_wp2_with fail
    refine (first_c _).mono ?_
    rintro e w1 ⟨rfl, ⟨y4, rfl⟩⟩
    go_wp2_with fail
    go_ret
    exact ⟨rfl, (by repeat' (first | exact Plus.refl _ | refine Plus.alloc ?_ _ | refine Plus.plus ?_ _ | refine Plus.drew ?_ | refine Plus.drewN ?_ _))⟩
  · exact (hff (by simp)).elim

theorem spreads_w (an : Bool) (A : Option Addr) (xs : List Nat) (n c : Nat) (bn : Bool) (C : Option Addr) (ys : List Nat) (m d : Nat) (kn : Bool) (E : Option Addr) (zs : List Nat) (k l : Nat) (w : World) (ha : Raw w A xs n c) (hb : Raw w C ys m d) (hc : Raw w E zs k l) :
    Calls Try.prog 11 #[.agg #[.bool an, .slice A n c], .agg #[.bool bn, .slice C m d], .agg #[.bool kn, .slice E k l]] w fun e w' => e = .returned (.bool true) ∧ Plus w w' := by
  by_cases hf : n ≤ 40 ∧ m ≤ 40 ∧ k ≤ 40
  · obtain ⟨f1, f2, f3⟩ := hf
    obtain ⟨a, ga⟩ : ∃ a, bigI an xs = a := ⟨_, rfl⟩
    obtain ⟨b, gb⟩ : ∃ b, bigI bn ys = b := ⟨_, rfl⟩
    obtain ⟨g, gc⟩ : ∃ g, bigI kn zs = g := ⟨_, rfl⟩
    obtain ⟨s, o1, b1, u1, m1, p1, r1⟩ := okN (b + g)
    obtain ⟨p, o2, b2, u2, m2, p2, r2⟩ := okN (a * s)
    obtain ⟨q, o3, b3, u3, m3, p3, r3⟩ := okN (a * b)
    obtain ⟨r, o4, b4, u4, m4, p4, r4⟩ := okN (a * g)
    obtain ⟨t, o5, b5, u5, m5, p5, r5⟩ := okN (q + r)
    refine spreads_h an A xs n c bn C ys m d kn E zs k l a b g s p q r t o1 o2 o3 o4 o5 b1 b2 b3 b4 b5 _ u1 u2 u3 u4 u5 w (Lib.hid (ha.arg f1)) (Lib.hid (hb.arg f2)) (Lib.hid (hc.arg f3)) (Lib.hid ga) (Lib.hid gb) (Lib.hid gc) (Lib.hid (by simpa using f1)) (Lib.hid (by simpa using f2)) (Lib.hid (by simpa using f3))
      (Lib.hid ⟨m1, p1, r1⟩) (Lib.hid m1.val) (Lib.hid ⟨m2, p2, r2⟩) (Lib.hid m2.val) (Lib.hid ⟨m3, p3, r3⟩) (Lib.hid m3.val) (Lib.hid ⟨m4, p4, r4⟩) (Lib.hid m4.val) (Lib.hid ⟨m5, p5, r5⟩) (Lib.hid m5.val) (Lib.hid rfl) (Lib.hid ?_)
    intro e1 e2 e3 e4 e5
    obtain ⟨q1, _⟩ := ok_yes p1 r1 e1
    obtain ⟨q2, _⟩ := ok_yes p2 r2 e2
    obtain ⟨q3, _⟩ := ok_yes p3 r3 e3
    obtain ⟨q4, _⟩ := ok_yes p4 r4 e4
    obtain ⟨q5, _⟩ := ok_yes p5 r5 e5
    rw [q5, q2, q1, q3, q4, Int.mul_add]
    exact decide_eq_true rfl
  · exact spreads_few an A n c bn C m d kn E k l w hf
end Go.Proofs.Ythaokkmbghgopaa
