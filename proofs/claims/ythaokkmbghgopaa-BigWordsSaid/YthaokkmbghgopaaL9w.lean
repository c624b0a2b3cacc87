/- The walk of BigWords. -/
import Derived.Test.YthaokkmbghgopaaC28
namespace Go.Proofs.Ythaokkmbghgopaa
open Go.RowKit


set_option maxRecDepth 100000 in
set_option maxHeartbeats 16000000 in
theorem words_h (an : Bool) (A : Option Addr) (xs : List Nat) (n c : Nat) (bn : Bool) (C : Option Addr) (ys : List Nat) (m d0 : Nat) (a b s d p g x y : Int) (o1 o2 o3 b1 b2 b3 b4 : Bool) (u1 u2 u3 u4 : List Nat) (w : World) (ha : Hid (Arg w A xs n c)) (hb : Hid (Arg w C ys m d0))
    (ga : Hid (bigI an xs = a)) (gb : Hid (bigI bn ys = b)) (f1 : Hid (decide (n ≤ 40) = true)) (f2 : Hid (decide (m ≤ 40) = true))
    (hx : Hid ((wordR a : Int) = x)) (hy : Hid ((wordR b : Int) = y))
    (h1 : Hid (AddN a b s o1 b1 u1)) (g1 : Hid (bigI b1 u1 = s)) (h2 : Hid (SubN a b d o2 b2 u2)) (g2 : Hid (bigI b2 u2 = d)) (h3 : Hid (MulN a b p o3 b3 u3)) (g3 : Hid (bigI b3 u3 = p)) (h4 : Hid (NegN a g b4 u4)) (g4 : Hid (bigI b4 u4 = g))
    (e1 : Hid (o1 = true → (wordR s : Int) = IntKind.u64.wrap (x + y))) (e2 : Hid (o2 = true → (wordR d : Int) = IntKind.u64.wrap (x - y))) (e3 : Hid (o3 = true → (wordR p : Int) = IntKind.u64.wrap (x * y))) (e4 : Hid ((wordR g : Int) = IntKind.u64.wrap (-x))) :
    Calls Try.prog 9 #[.agg #[.bool an, .slice A n c], .agg #[.bool bn, .slice C m d0]] w fun e w' => e = .returned (.bool true) ∧ Plus w w' := by
  go_enter Try.func9, Try.ntmps9
  go_wp2_with fail
  refine (first_c _).mono ?_
  rintro e w1 ⟨rfl, ⟨y0, rfl⟩⟩
  go_wp2_with fail
  refine (few_c f1 _).mono ?_
  rintro e w1 ⟨rfl, ⟨y1, rfl⟩⟩
  go_wp2_with fail
  refine (few_c f2 _).mono ?_
  rintro e w1 ⟨rfl, ⟨y2, rfl⟩⟩
  go_wp2_with fail
  refine wp_region_plus (by kernel_rfl) (by kernel_rfl) ?_
  repeat (go_big_quiet_step ((first | (go_at_call_of 40 (Value.agg #[.bool an, .slice A n c]); exact calls_plus (word_n ga hx _ (ha.out.plus (by repeat' (first | exact Plus.refl _ | refine Plus.alloc ?_ _ | refine Plus.plus ?_ _ | refine Plus.drew ?_ | refine Plus.drewN ?_ _))))) | (go_at_call_of 40 (Value.agg #[.bool bn, .slice C m d0]); exact calls_plus (word_n gb hy _ (hb.out.plus (by repeat' (first | exact Plus.refl _ | refine Plus.alloc ?_ _ | refine Plus.plus ?_ _ | refine Plus.drew ?_ | refine Plus.drewN ?_ _))))))))
  refine wpQuiet_nil ?_
  intro _ hw'
  obtain ⟨x3, rfl⟩ := hw'
  go_wp2_with fail
  refine (add_n ga gb h1 _ (ha.out.plus (by repeat' (first | exact Plus.refl _ | refine Plus.alloc ?_ _ | refine Plus.plus ?_ _ | refine Plus.drew ?_ | refine Plus.drewN ?_ _))) (hb.out.plus (by repeat' (first | exact Plus.refl _ | refine Plus.alloc ?_ _ | refine Plus.plus ?_ _ | refine Plus.drew ?_ | refine Plus.drewN ?_ _)))).mono ?_
  rintro e w1 ⟨A1, c1, rfl, a1, ⟨x1, rfl⟩⟩
  replace a1 := Lib.hid a1
  go_wp2_with fail
  refine (sub_n ga gb h2 _ (ha.out.plus (by repeat' (first | exact Plus.refl _ | refine Plus.alloc ?_ _ | refine Plus.plus ?_ _ | refine Plus.drew ?_ | refine Plus.drewN ?_ _))) (hb.out.plus (by repeat' (first | exact Plus.refl _ | refine Plus.alloc ?_ _ | refine Plus.plus ?_ _ | refine Plus.drew ?_ | refine Plus.drewN ?_ _)))).mono ?_
  rintro e w1 ⟨A2, c2, rfl, a2, ⟨x2, rfl⟩⟩
  replace a2 := Lib.hid a2
  go_wp2_with fail
  refine (mul_n ga gb h3 _ (ha.out.plus (by repeat' (first | exact Plus.refl _ | refine Plus.alloc ?_ _ | refine Plus.plus ?_ _ | refine Plus.drew ?_ | refine Plus.drewN ?_ _))) (hb.out.plus (by repeat' (first | exact Plus.refl _ | refine Plus.alloc ?_ _ | refine Plus.plus ?_ _ | refine Plus.drew ?_ | refine Plus.drewN ?_ _)))).mono ?_
  rintro e w1 ⟨A3, c3, rfl, a3, ⟨x3, rfl⟩⟩
  replace a3 := Lib.hid a3
  go_wp2_with fail
  refine (first_c _).mono ?_
  rintro e w1 ⟨rfl, ⟨y4, rfl⟩⟩
  cases o1
  · clear e1
    cases o2
    · clear e2
      cases o3
      · clear e3
        go_wp2_with fail
        refine (neg_n ga h4 _ (ha.out.plus (by repeat' (first | exact Plus.refl _ | refine Plus.alloc ?_ _ | refine Plus.plus ?_ _ | refine Plus.drew ?_ | refine Plus.drewN ?_ _)))).mono ?_
        rintro e w1 ⟨A4, c4, rfl, a4, ⟨x4, rfl⟩⟩
        replace a4 := Lib.hid a4
        go_wp2_with fail
        refine (word_n g4 e4 _ (a4.out.plus (by repeat' (first | exact Plus.refl _ | refine Plus.alloc ?_ _ | refine Plus.plus ?_ _ | refine Plus.drew ?_ | refine Plus.drewN ?_ _)))).mono ?_
        rintro e w1 ⟨rfl, ⟨z4, rfl⟩⟩
        go_wp2_with fail
        go_ret
        exact ⟨rfl, (by repeat' (first | exact Plus.refl _ | refine Plus.alloc ?_ _ | refine Plus.plus ?_ _ | refine Plus.drew ?_ | refine Plus.drewN ?_ _))⟩
      · replace e3 := Lib.hid (e3.out rfl)
        go_wp2_with fail
        refine (word_n g3 e3 _ (a3.out.plus (by repeat' (first | exact Plus.refl _ | refine Plus.alloc ?_ _ | refine Plus.plus ?_ _ | refine Plus.drew ?_ | refine Plus.drewN ?_ _)))).mono ?_
        rintro e w1 ⟨rfl, ⟨z3, rfl⟩⟩
        go_wp2_with fail
        refine (neg_n ga h4 _ (ha.out.plus (by repeat' (first | exact Plus.refl _ | refine Plus.alloc ?_ _ | refine Plus.plus ?_ _ | refine Plus.drew ?_ | refine Plus.drewN ?_ _)))).mono ?_
        rintro e w1 ⟨A4, c4, rfl, a4, ⟨x4, rfl⟩⟩
        replace a4 := Lib.hid a4
        go_wp2_with fail
        refine (word_n g4 e4 _ (a4.out.plus (by repeat' (first | exact Plus.refl _ | refine Plus.alloc ?_ _ | refine Plus.plus ?_ _ | refine Plus.drew ?_ | refine Plus.drewN ?_ _)))).mono ?_
        rintro e w1 ⟨rfl, ⟨z4, rfl⟩⟩
        go_wp2_with fail
        go_ret
        exact ⟨rfl, (by repeat' (first | exact Plus.refl _ | refine Plus.alloc ?_ _ | refine Plus.plus ?_ _ | refine Plus.drew ?_ | refine Plus.drewN ?_ _))⟩
    · replace e2 := Lib.hid (e2.out rfl)
      go_wp2_with fail
      refine (word_n g2 e2 _ (a2.out.plus (by repeat' (first | exact Plus.refl _ | refine Plus.alloc ?_ _ | refine Plus.plus ?_ _ | refine Plus.drew ?_ | refine Plus.drewN ?_ _)))).mono ?_
      rintro e w1 ⟨rfl, ⟨z2, rfl⟩⟩
      cases o3
      · clear e3
        go_wp2_with fail
        refine (neg_n ga h4 _ (ha.out.plus (by repeat' (first | exact Plus.refl _ | refine Plus.alloc ?_ _ | refine Plus.plus ?_ _ | refine Plus.drew ?_ | refine Plus.drewN ?_ _)))).mono ?_
        rintro e w1 ⟨A4, c4, rfl, a4, ⟨x4, rfl⟩⟩
        replace a4 := Lib.hid a4
        go_wp2_with fail
        refine (word_n g4 e4 _ (a4.out.plus (by repeat' (first | exact Plus.refl _ | refine Plus.alloc ?_ _ | refine Plus.plus ?_ _ | refine Plus.drew ?_ | refine Plus.drewN ?_ _)))).mono ?_
        rintro e w1 ⟨rfl, ⟨z4, rfl⟩⟩
        go_wp2_with fail
        go_ret
        exact ⟨rfl, (by repeat' (first | exact Plus.refl _ | refine Plus.alloc ?_ _ | refine Plus.plus ?_ _ | refine Plus.drew ?_ | refine Plus.drewN ?_ _))⟩
      · replace e3 := Lib.hid (e3.out rfl)
        go_wp2_with fail
        refine (word_n g3 e3 _ (a3.out.plus (by repeat' (first | exact Plus.refl _ | refine Plus.alloc ?_ _ | refine Plus.plus ?_ _ | refine Plus.drew ?_ | refine Plus.drewN ?_ _)))).mono ?_
        rintro e w1 ⟨rfl, ⟨z3, rfl⟩⟩
        go_wp2_with fail
        refine (neg_n ga h4 _ (ha.out.plus (by repeat' (first | exact Plus.refl _ | refine Plus.alloc ?_ _ | refine Plus.plus ?_ _ | refine Plus.drew ?_ | refine Plus.drewN ?_ _)))).mono ?_
        rintro e w1 ⟨A4, c4, rfl, a4, ⟨x4, rfl⟩⟩
        replace a4 := Lib.hid a4
        go_wp2_with fail
        refine (word_n g4 e4 _ (a4.out.plus (by repeat' (first | exact Plus.refl _ | refine Plus.alloc ?_ _ | refine Plus.plus ?_ _ | refine Plus.drew ?_ | refine Plus.drewN ?_ _)))).mono ?_
        rintro e w1 ⟨rfl, ⟨z4, rfl⟩⟩
        go_wp2_with fail
        go_ret
        exact ⟨rfl, (by repeat' (first | exact Plus.refl _ | refine Plus.alloc ?_ _ | refine Plus.plus ?_ _ | refine Plus.drew ?_ | refine Plus.drewN ?_ _))⟩
  · replace e1 := Lib.hid (e1.out rfl)
    go_wp2_with fail
    refine (word_n g1 e1 _ (a1.out.plus (by repeat' (first | exact Plus.refl _ | refine Plus.alloc ?_ _ | refine Plus.plus ?_ _ | refine Plus.drew ?_ | refine Plus.drewN ?_ _)))).mono ?_
    rintro e w1 ⟨rfl, ⟨z1, rfl⟩⟩
    cases o2
    · clear e2
      cases o3
      · clear e3
        go_wp2_with fail
        refine (neg_n ga h4 _ (ha.out.plus (by repeat' (first | exact Plus.refl _ | refine Plus.alloc ?_ _ | refine Plus.plus ?_ _ | refine Plus.drew ?_ | refine Plus.drewN ?_ _)))).mono ?_
        rintro e w1 ⟨A4, c4, rfl, a4, ⟨x4, rfl⟩⟩
        replace a4 := Lib.hid a4
        go_wp2_with fail
        refine (word_n g4 e4 _ (a4.out.plus (by repeat' (first | exact Plus.refl _ | refine Plus.alloc ?_ _ | refine Plus.plus ?_ _ | refine Plus.drew ?_ | refine Plus.drewN ?_ _)))).mono ?_
        rintro e w1 ⟨rfl, ⟨z4, rfl⟩⟩
        go_wp2_with fail
        go_ret
        exact ⟨rfl, (by repeat' (first | exact Plus.refl _ | refine Plus.alloc ?_ _ | refine Plus.plus ?_ _ | refine Plus.drew ?_ | refine Plus.drewN ?_ _))⟩
      · replace e3 := Lib.hid (e3.out rfl)
        go_wp2_with fail
        refine (word_n g3 e3 _ (a3.out.plus (by repeat' (first | exact Plus.refl _ | refine Plus.alloc ?_ _ | refine Plus.plus ?_ _ | refine Plus.drew ?_ | refine Plus.drewN ?_ _)))).mono ?_
        rintro e w1 ⟨rfl, ⟨z3, rfl⟩⟩
        go_wp2_with fail
        refine (neg_n ga h4 _ (ha.out.plus (by repeat' (first | exact Plus.refl _ | refine Plus.alloc ?_ _ | refine Plus.plus ?_ _ | refine Plus.drew ?_ | refine Plus.drewN ?_ _)))).mono ?_
        rintro e w1 ⟨A4, c4, rfl, a4, ⟨x4, rfl⟩⟩
        replace a4 := Lib.hid a4
        go_wp2_with fail
        refine (word_n g4 e4 _ (a4.out.plus (by repeat' (first | exact Plus.refl _ | refine Plus.alloc ?_ _ | refine Plus.plus ?_ _ | refine Plus.drew ?_ | refine Plus.drewN ?_ _)))).mono ?_
        rintro e w1 ⟨rfl, ⟨z4, rfl⟩⟩
        go_wp2_with fail
        go_ret
        exact ⟨rfl, (by repeat' (first | exact Plus.refl _ | refine Plus.alloc ?_ _ | refine Plus.plus ?_ _ | refine Plus.drew ?_ | refine Plus.drewN ?_ _))⟩
    · replace e2 := Lib.hid (e2.out rfl)
      go_wp2_with fail
      refine (word_n g2 e2 _ (a2.out.plus (by repeat' (first | exact Plus.refl _ | refine Plus.alloc ?_ _ | refine Plus.plus ?_ _ | refine Plus.drew ?_ | refine Plus.drewN ?_ _)))).mono ?_
      rintro e w1 ⟨rfl, ⟨z2, rfl⟩⟩
      cases o3
      · clear e3
        go_wp2_with fail
        refine (neg_n ga h4 _ (ha.out.plus (by repeat' (first | exact Plus.refl _ | refine Plus.alloc ?_ _ | refine Plus.plus ?_ _ | refine Plus.drew ?_ | refine Plus.drewN ?_ _)))).mono ?_
        rintro e w1 ⟨A4, c4, rfl, a4, ⟨x4, rfl⟩⟩
        replace a4 := Lib.hid a4
        go_wp2_with fail
        refine (word_n g4 e4 _ (a4.out.plus (by repeat' (first | exact Plus.refl _ | refine Plus.alloc ?_ _ | refine Plus.plus ?_ _ | refine Plus.drew ?_ | refine Plus.drewN ?_ _)))).mono ?_
        rintro e w1 ⟨rfl, ⟨z4, rfl⟩⟩
        go_wp2_with fail
        go_ret
        exact ⟨rfl, (by repeat' (first | exact Plus.refl _ | refine Plus.alloc ?_ _ | refine Plus.plus ?_ _ | refine Plus.drew ?_ | refine Plus.drewN ?_ _))⟩
      · replace e3 := Lib.hid (e3.out rfl)
        go_wp2_with fail
        refine (word_n g3 e3 _ (a3.out.plus (by repeat' (first | exact Plus.refl _ | refine Plus.alloc ?_ _ | refine Plus.plus ?_ _ | refine Plus.drew ?_ | refine Plus.drewN ?_ _)))).mono ?_
        rintro e w1 ⟨rfl, ⟨z3, rfl⟩⟩
        go_wp2_with fail
        refine (neg_n ga h4 _ (ha.out.plus (by repeat' (first | exact Plus.refl _ | refine Plus.alloc ?_ _ | refine Plus.plus ?_ _ | refine Plus.drew ?_ | refine Plus.drewN ?_ _)))).mono ?_
        rintro e w1 ⟨A4, c4, rfl, a4, ⟨x4, rfl⟩⟩
        replace a4 := Lib.hid a4
        go_wp2_with fail
        refine (word_n g4 e4 _ (a4.out.plus (by repeat' (first | exact Plus.refl _ | refine Plus.alloc ?_ _ | refine Plus.plus ?_ _ | refine Plus.drew ?_ | refine Plus.drewN ?_ _)))).mono ?_
        rintro e w1 ⟨rfl, ⟨z4, rfl⟩⟩
        go_wp2_with fail
        go_ret
        exact ⟨rfl, (by repeat' (first | exact Plus.refl _ | refine Plus.alloc ?_ _ | refine Plus.plus ?_ _ | refine Plus.drew ?_ | refine Plus.drewN ?_ _))⟩

set_option maxRecDepth 100000 in
set_option maxHeartbeats 4000000 in
theorem words_few (an : Bool) (A : Option Addr) (n c : Nat) (bn : Bool) (C : Option Addr) (m d0 : Nat) (w : World) (hf : ¬ (n ≤ 40 ∧ m ≤ 40)) :
    Calls Try.prog 9 #[.agg #[.bool an, .slice A n c], .agg #[.bool bn, .slice C m d0]] w fun e w' => e = .returned (.bool true) ∧ Plus w w' := by
  obtain ⟨v1, e1⟩ : ∃ v, decide (n ≤ 40) = v := ⟨_, rfl⟩
  obtain ⟨v2, e2⟩ : ∃ v, decide (m ≤ 40) = v := ⟨_, rfl⟩
  have hff : ¬ (v1 = true ∧ v2 = true) := fun ⟨q1, q2⟩ => hf (by
    subst q1 q2
    exact ⟨of_decide_eq_true e1, of_decide_eq_true e2⟩)
  have E1 := Lib.hid e1
  have E2 := Lib.hid e2
  clear e1 e2 hf
  go_enter Try.func9, Try.ntmps9
  go_wp2_with fail
  refine (first_c _).mono ?_
  rintro e w1 ⟨rfl, ⟨y0, rfl⟩⟩
  go_wp2_with fail
  refine (few_c E1 _).mono ?_
  rintro e w1 ⟨rfl, ⟨y1, rfl⟩⟩
  cases v1
  · go_wp2_with fail
    refine (first_c _).mono ?_
    rintro e w1 ⟨rfl, ⟨y2, rfl⟩⟩
    go_wp2_with fail
    go_ret
    exact ⟨rfl, (by repeat' (first | exact Plus.refl _ | refine Plus.alloc ?_ _ | refine Plus.plus ?_ _ | refine Plus.drew ?_ | refine Plus.drewN ?_ _))⟩
  go_wp2_with fail
  refine (few_c E2 _).mono ?_
  rintro e w1 ⟨rfl, ⟨y2, rfl⟩⟩
  cases v2
  · go_wp2_with fail
    refine (first_c _).mono ?_
    rintro e w1 ⟨rfl, ⟨y3, rfl⟩⟩
    go_wp2_with fail
    go_ret
    exact ⟨rfl, (by repeat' (first | exact Plus.refl _ | refine Plus.alloc ?_ _ | refine Plus.plus ?_ _ | refine Plus.drew ?_ | refine Plus.drewN ?_ _))⟩
  · exact (hff (by simp)).elim

theorem wordR_add (a b : Int) : (wordR (a + b) : Int) = IntKind.u64.wrap ((wordR a : Int) + wordR b) := by
  rw [IntKind.wrap_u64]; unfold wordR; omega
theorem wordR_sub (a b : Int) : (wordR (a - b) : Int) = IntKind.u64.wrap ((wordR a : Int) - wordR b) := by
  rw [IntKind.wrap_u64]; unfold wordR; omega
theorem wordR_neg (a : Int) : (wordR (-a) : Int) = IntKind.u64.wrap (-(wordR a : Int)) := by
  rw [IntKind.wrap_u64]; unfold wordR; omega
theorem wordR_int (a : Int) : (wordR a : Int) = a % 18446744073709551616 := by unfold wordR; omega
theorem wordR_mul (a b : Int) : (wordR (a * b) : Int) = IntKind.u64.wrap ((wordR a : Int) * wordR b) := by
  rw [IntKind.wrap_u64, wordR_int, wordR_int, wordR_int, Int.mul_emod]

set_option maxHeartbeats 4000000 in
theorem words_w (an : Bool) (A : Option Addr) (xs : List Nat) (n c : Nat) (bn : Bool) (C : Option Addr) (ys : List Nat) (m d0 : Nat) (w : World) (ha : Raw w A xs n c) (hb : Raw w C ys m d0) :
    Calls Try.prog 9 #[.agg #[.bool an, .slice A n c], .agg #[.bool bn, .slice C m d0]] w fun e w' => e = .returned (.bool true) ∧ Plus w w' := by
  by_cases hf : n ≤ 40 ∧ m ≤ 40
  · obtain ⟨f1, f2⟩ := hf
    obtain ⟨a, ga⟩ : ∃ a, bigI an xs = a := ⟨_, rfl⟩
    obtain ⟨b, gb⟩ : ∃ b, bigI bn ys = b := ⟨_, rfl⟩
    obtain ⟨s, o1, b1, u1, m1, p1, r1⟩ := okN (a + b)
    obtain ⟨d, o2, b2, u2, m2, p2, r2⟩ := okN (a - b)
    obtain ⟨p, o3, b3, u3, m3, p3, r3⟩ := okN (a * b)
    have m4 := Nm.mk' (n := -a) (by rw [Int.natAbs_neg, ← ga]; exact bigI_abs ha.lim.1)
    refine words_h an A xs n c bn C ys m d0 a b s d p _ _ _ o1 o2 o3 b1 b2 b3 _ u1 u2 u3 _ w (Lib.hid (ha.arg f1)) (Lib.hid (hb.arg f2)) (Lib.hid ga) (Lib.hid gb) (Lib.hid (by simpa using f1)) (Lib.hid (by simpa using f2)) (Lib.hid rfl) (Lib.hid rfl)
      (Lib.hid ⟨m1, p1, r1⟩) (Lib.hid m1.val) (Lib.hid ⟨m2, p2, r2⟩) (Lib.hid m2.val) (Lib.hid ⟨m3, p3, r3⟩) (Lib.hid m3.val) (Lib.hid ⟨m4, rfl⟩) (Lib.hid m4.val) (Lib.hid ?_) (Lib.hid ?_) (Lib.hid ?_) (Lib.hid (wordR_neg a))
    · intro h
      rw [(ok_yes p1 r1 h).1]
      exact wordR_add a b
    · intro h
      rw [(ok_yes p2 r2 h).1]
      exact wordR_sub a b
    · intro h
      rw [(ok_yes p3 r3 h).1]
      exact wordR_mul a b
  · exact words_few an A n c bn C m d0 w hf
end Go.Proofs.Ythaokkmbghgopaa
