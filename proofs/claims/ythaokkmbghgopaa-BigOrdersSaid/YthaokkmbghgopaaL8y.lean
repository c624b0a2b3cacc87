/- BigOrders, of any three. -/
import Derived.Test.YthaokkmbghgopaaL8w
import Derived.Test.YthaokkmbghgopaaL8x
namespace Go.Proofs.Ythaokkmbghgopaa
open Go.RowKit


set_option maxHeartbeats 8000000 in
theorem orders_w (an : Bool) (A : Option Addr) (xs : List Nat) (n c : Nat) (bn : Bool) (C : Option Addr) (ys : List Nat) (m d : Nat) (kn : Bool) (E : Option Addr) (zs : List Nat) (k l : Nat) (w : World) (ha : Raw w A xs n c) (hb : Raw w C ys m d) (hc : Raw w E zs k l) :
    Calls Try.prog 8 #[.agg #[.bool an, .slice A n c], .agg #[.bool bn, .slice C m d], .agg #[.bool kn, .slice E k l]] w fun e w' => e = .returned (.bool true) ∧ Plus w w' := by
  by_cases hf : n ≤ 40 ∧ m ≤ 40 ∧ k ≤ 40
  · obtain ⟨f1, f2, f3⟩ := hf
    obtain ⟨a, ga⟩ : ∃ a, bigI an xs = a := ⟨_, rfl⟩
    obtain ⟨b, gb⟩ : ∃ b, bigI bn ys = b := ⟨_, rfl⟩
    obtain ⟨g, gc⟩ : ∃ g, bigI kn zs = g := ⟨_, rfl⟩
    obtain ⟨s, o1, b3, u3, m3, p3, r3⟩ := okN (a + g)
    obtain ⟨r, o2, b4, u4, m4, p4, r4⟩ := okN (b + g)
    have m1 := Nm.mk' (n := -b) (by rw [Int.natAbs_neg, ← gb]; exact bigI_abs hb.lim.1)
    have m2 := Nm.mk' (n := -a) (by rw [Int.natAbs_neg, ← ga]; exact bigI_abs ha.lim.1)
    have hT : (b < a) ∨ (a = b ∧ g < b) ∨ (a = b ∧ b = g) ∨ (a = b ∧ b < g) ∨ (a < b ∧ g < b) ∨ (a < b ∧ b = g) ∨ (a < b ∧ b < g) := by omega
    rcases hT with t | t | t | t | t | t | t
    · refine orders_p _ _ _ _ _ _ _ _ _ _ _ _ _ _ _ _ _ _ _ _ _ _ _ _ _ _ _ _ _ _ _ _ _ _ w (Lib.hid (ha.arg f1)) (Lib.hid (hb.arg f2)) (Lib.hid (hc.arg f3)) (Lib.hid ga) (Lib.hid gb) (Lib.hid gc) (Lib.hid (by simpa using f1)) (Lib.hid (by simpa using f2)) (Lib.hid (by simpa using f3))
        (Lib.hid (by unfold CmpN cmpZ; (repeat' split) <;> omega)) (Lib.hid rfl) (Lib.hid rfl) (Lib.hid (by unfold CmpN cmpZ; (repeat' split) <;> omega)) (Lib.hid (by unfold SameN; exact decide_eq_false (by omega))) (Lib.hid (by unfold CmpN cmpZ; (repeat' split) <;> omega))
        (Lib.hid ⟨m1, rfl⟩) (Lib.hid m1.val) (Lib.hid ⟨m2, rfl⟩) (Lib.hid m2.val) (Lib.hid ⟨m3, p3, r3⟩) (Lib.hid m3.val) (Lib.hid ⟨m4, p4, r4⟩) (Lib.hid m4.val) (Lib.hid ?_)
      intro q1 q2
      rw [(ok_yes p3 r3 q1).1, (ok_yes p4 r4 q2).1]
      unfold CmpN cmpZ
      (repeat' split) <;> omega
    · refine orders_op _ _ _ _ _ _ _ _ _ _ _ _ _ _ _ _ _ _ _ _ _ _ _ _ _ _ _ _ _ _ _ _ _ w (Lib.hid (ha.arg f1)) (Lib.hid (hb.arg f2)) (Lib.hid (hc.arg f3)) (Lib.hid ga) (Lib.hid gb) (Lib.hid gc) (Lib.hid (by simpa using f1)) (Lib.hid (by simpa using f2)) (Lib.hid (by simpa using f3))
        (Lib.hid (by unfold CmpN cmpZ; (repeat' split) <;> omega)) (Lib.hid (by unfold CmpN cmpZ; (repeat' split) <;> omega)) (Lib.hid rfl) (Lib.hid (by unfold CmpN cmpZ; (repeat' split) <;> omega)) (Lib.hid (by unfold SameN; exact decide_eq_true (by omega))) (Lib.hid (by unfold CmpN cmpZ; (repeat' split) <;> omega))
        (Lib.hid ⟨m1, rfl⟩) (Lib.hid m1.val) (Lib.hid ⟨m2, rfl⟩) (Lib.hid m2.val) (Lib.hid ⟨m3, p3, r3⟩) (Lib.hid m3.val) (Lib.hid ⟨m4, p4, r4⟩) (Lib.hid m4.val) (Lib.hid ?_)
      intro q1 q2
      rw [(ok_yes p3 r3 q1).1, (ok_yes p4 r4 q2).1]
      unfold CmpN cmpZ
      (repeat' split) <;> omega
    · refine orders_oo _ _ _ _ _ _ _ _ _ _ _ _ _ _ _ _ _ _ _ _ _ _ _ _ _ _ _ _ _ _ _ _ w (Lib.hid (ha.arg f1)) (Lib.hid (hb.arg f2)) (Lib.hid (hc.arg f3)) (Lib.hid ga) (Lib.hid gb) (Lib.hid gc) (Lib.hid (by simpa using f1)) (Lib.hid (by simpa using f2)) (Lib.hid (by simpa using f3))
        (Lib.hid (by unfold CmpN cmpZ; (repeat' split) <;> omega)) (Lib.hid (by unfold CmpN cmpZ; (repeat' split) <;> omega)) (Lib.hid (by unfold CmpN cmpZ; (repeat' split) <;> omega)) (Lib.hid (by unfold CmpN cmpZ; (repeat' split) <;> omega)) (Lib.hid (by unfold SameN; exact decide_eq_true (by omega))) (Lib.hid (by unfold CmpN cmpZ; (repeat' split) <;> omega))
        (Lib.hid ⟨m1, rfl⟩) (Lib.hid m1.val) (Lib.hid ⟨m2, rfl⟩) (Lib.hid m2.val) (Lib.hid ⟨m3, p3, r3⟩) (Lib.hid m3.val) (Lib.hid ⟨m4, p4, r4⟩) (Lib.hid m4.val) (Lib.hid ?_)
      intro q1 q2
      rw [(ok_yes p3 r3 q1).1, (ok_yes p4 r4 q2).1]
      unfold CmpN cmpZ
      (repeat' split) <;> omega
    · refine orders_on _ _ _ _ _ _ _ _ _ _ _ _ _ _ _ _ _ _ _ _ _ _ _ _ _ _ _ _ _ _ _ _ w (Lib.hid (ha.arg f1)) (Lib.hid (hb.arg f2)) (Lib.hid (hc.arg f3)) (Lib.hid ga) (Lib.hid gb) (Lib.hid gc) (Lib.hid (by simpa using f1)) (Lib.hid (by simpa using f2)) (Lib.hid (by simpa using f3))
        (Lib.hid (by unfold CmpN cmpZ; (repeat' split) <;> omega)) (Lib.hid (by unfold CmpN cmpZ; (repeat' split) <;> omega)) (Lib.hid (by unfold CmpN cmpZ; (repeat' split) <;> omega)) (Lib.hid (by unfold CmpN cmpZ; (repeat' split) <;> omega)) (Lib.hid (by unfold SameN; exact decide_eq_true (by omega))) (Lib.hid (by unfold CmpN cmpZ; (repeat' split) <;> omega))
        (Lib.hid ⟨m1, rfl⟩) (Lib.hid m1.val) (Lib.hid ⟨m2, rfl⟩) (Lib.hid m2.val) (Lib.hid ⟨m3, p3, r3⟩) (Lib.hid m3.val) (Lib.hid ⟨m4, p4, r4⟩) (Lib.hid m4.val) (Lib.hid ?_)
      intro q1 q2
      rw [(ok_yes p3 r3 q1).1, (ok_yes p4 r4 q2).1]
      unfold CmpN cmpZ
      (repeat' split) <;> omega
    · refine orders_np _ _ _ _ _ _ _ _ _ _ _ _ _ _ _ _ _ _ _ _ _ _ _ _ _ _ _ _ _ _ _ _ _ w (Lib.hid (ha.arg f1)) (Lib.hid (hb.arg f2)) (Lib.hid (hc.arg f3)) (Lib.hid ga) (Lib.hid gb) (Lib.hid gc) (Lib.hid (by simpa using f1)) (Lib.hid (by simpa using f2)) (Lib.hid (by simpa using f3))
        (Lib.hid (by unfold CmpN cmpZ; (repeat' split) <;> omega)) (Lib.hid (by unfold CmpN cmpZ; (repeat' split) <;> omega)) (Lib.hid rfl) (Lib.hid (by unfold CmpN cmpZ; (repeat' split) <;> omega)) (Lib.hid (by unfold SameN; exact decide_eq_false (by omega))) (Lib.hid (by unfold CmpN cmpZ; (repeat' split) <;> omega))
        (Lib.hid ⟨m1, rfl⟩) (Lib.hid m1.val) (Lib.hid ⟨m2, rfl⟩) (Lib.hid m2.val) (Lib.hid ⟨m3, p3, r3⟩) (Lib.hid m3.val) (Lib.hid ⟨m4, p4, r4⟩) (Lib.hid m4.val) (Lib.hid ?_)
      intro q1 q2
      rw [(ok_yes p3 r3 q1).1, (ok_yes p4 r4 q2).1]
      unfold CmpN cmpZ
      (repeat' split) <;> omega
    · refine orders_no _ _ _ _ _ _ _ _ _ _ _ _ _ _ _ _ _ _ _ _ _ _ _ _ _ _ _ _ _ _ _ _ w (Lib.hid (ha.arg f1)) (Lib.hid (hb.arg f2)) (Lib.hid (hc.arg f3)) (Lib.hid ga) (Lib.hid gb) (Lib.hid gc) (Lib.hid (by simpa using f1)) (Lib.hid (by simpa using f2)) (Lib.hid (by simpa using f3))
        (Lib.hid (by unfold CmpN cmpZ; (repeat' split) <;> omega)) (Lib.hid (by unfold CmpN cmpZ; (repeat' split) <;> omega)) (Lib.hid (by unfold CmpN cmpZ; (repeat' split) <;> omega)) (Lib.hid (by unfold CmpN cmpZ; (repeat' split) <;> omega)) (Lib.hid (by unfold SameN; exact decide_eq_false (by omega))) (Lib.hid (by unfold CmpN cmpZ; (repeat' split) <;> omega))
        (Lib.hid ⟨m1, rfl⟩) (Lib.hid m1.val) (Lib.hid ⟨m2, rfl⟩) (Lib.hid m2.val) (Lib.hid ⟨m3, p3, r3⟩) (Lib.hid m3.val) (Lib.hid ⟨m4, p4, r4⟩) (Lib.hid m4.val) (Lib.hid ?_)
      intro q1 q2
      rw [(ok_yes p3 r3 q1).1, (ok_yes p4 r4 q2).1]
      unfold CmpN cmpZ
      (repeat' split) <;> omega
    · refine orders_nn _ _ _ _ _ _ _ _ _ _ _ _ _ _ _ _ _ _ _ _ _ _ _ _ _ _ _ _ _ _ _ _ w (Lib.hid (ha.arg f1)) (Lib.hid (hb.arg f2)) (Lib.hid (hc.arg f3)) (Lib.hid ga) (Lib.hid gb) (Lib.hid gc) (Lib.hid (by simpa using f1)) (Lib.hid (by simpa using f2)) (Lib.hid (by simpa using f3))
        (Lib.hid (by unfold CmpN cmpZ; (repeat' split) <;> omega)) (Lib.hid (by unfold CmpN cmpZ; (repeat' split) <;> omega)) (Lib.hid (by unfold CmpN cmpZ; (repeat' split) <;> omega)) (Lib.hid (by unfold CmpN cmpZ; (repeat' split) <;> omega)) (Lib.hid (by unfold SameN; exact decide_eq_false (by omega))) (Lib.hid (by unfold CmpN cmpZ; (repeat' split) <;> omega))
        (Lib.hid ⟨m1, rfl⟩) (Lib.hid m1.val) (Lib.hid ⟨m2, rfl⟩) (Lib.hid m2.val) (Lib.hid ⟨m3, p3, r3⟩) (Lib.hid m3.val) (Lib.hid ⟨m4, p4, r4⟩) (Lib.hid m4.val) (Lib.hid ?_)
      intro q1 q2
      rw [(ok_yes p3 r3 q1).1, (ok_yes p4 r4 q2).1]
      unfold CmpN cmpZ
      (repeat' split) <;> omega
  · exact orders_few an A n c bn C m d kn E k l w hf
end Go.Proofs.Ythaokkmbghgopaa
