/- The document's BigInts: Same. -/
import Derived.Test.YthaokkmbghgopaaD12
namespace Go.Proofs.Ythaokkmbghgopaa
open Go.RowKit


set_option maxRecDepth 100000 in
set_option maxHeartbeats 2000000 in
theorem rbig_c (p q v : Bool) (A C : Option Addr) (us vs : List Nat) (n c m d : Nat) (hv : Hid (decide (p = q ∧ us = vs) = v)) (w : World) (h : Hid (Lim w A us)) (k : Hid (Lim w C vs)) (hn : Hid (n = us.length)) (hm : Hid (m = vs.length)) (hl : Hid (n ≤ 1048576)) (kl : Hid (m ≤ 1048576)) :
    Calls Try.prog 23 #[.agg #[.bool p, .slice A n c], .agg #[.bool q, .slice C m d]] w fun e w' => e = .returned (.bool v) ∧ Plus w w' := by
  have hh := fun (o1 o2 : Obj) => rlimbs_c A C us vs n c m d ((w.alloc o1).alloc o2) ((h.out.alloc o1).alloc o2) ((k.out.alloc o1).alloc o2) hn.out hm.out hl.out kl.out
  obtain ⟨V, hV⟩ : ∃ V, decide (us = vs) = V := ⟨_, rfl⟩
  rw [hV] at hh
  by_cases hpq : p = q
  · subst hpq
    have e : v = V := by rw [← hv.out, ← hV]; simp
    subst e
    cases p
    all_goals
      go_enter Try.func23, Try.ntmps23
      go_wp2_with fail
      refine (hh _ _).mono ?_
      rintro e w1 ⟨rfl, ⟨x1, rfl⟩⟩
      go_wp2_with fail
      go_ret
      exact ⟨rfl, (by repeat' (first | exact Plus.refl _ | refine Plus.alloc ?_ _ | refine Plus.plus ?_ _ | refine Plus.drew ?_ | refine Plus.drewN ?_ _))⟩
  · have e : v = false := by rw [← hv.out]; exact decide_eq_false fun e => hpq e.1
    subst e
    cases p <;> cases q
    all_goals first | exact (hpq rfl).elim | (go_enter Try.func23, Try.ntmps23; go_wp2_with fail; go_ret; exact ⟨rfl, (by repeat' (first | exact Plus.refl _ | refine Plus.alloc ?_ _ | refine Plus.plus ?_ _ | refine Plus.drew ?_ | refine Plus.drewN ?_ _))⟩)

set_option maxRecDepth 100000 in
set_option maxHeartbeats 4000000 in
theorem rsame_h (an bn p q v : Bool) (A C : Option Addr) (xs ys : List Nat) (n c m d : Nat) (us vs : List Nat) (h1 : Hid (decide (bigI an xs < 0) = p ∧ dig (bigI an xs).natAbs = us)) (h2 : Hid (decide (bigI bn ys < 0) = q ∧ dig (bigI bn ys).natAbs = vs)) (hv : Hid (decide (p = q ∧ us = vs) = v)) (hu : us.length ≤ 1048576) (hu2 : vs.length ≤ 1048576) (w : World) (ha : Hid (Arg w A xs n c)) (hb : Hid (Arg w C ys m d)) :
    Calls Try.prog 31 #[.agg #[.bool an, .slice A n c], .agg #[.bool bn, .slice C m d]] w fun e w' => e = .returned (.bool v) ∧ Plus w w' := by
  go_enter Try.func31, Try.ntmps31
  go_upto_region 1 with fail
  go_region_held3 (fun w' => w'.cell? ⟨w.heap.size, 0, none⟩ = some (.bool an) ∧ w'.cell? ⟨w.heap.size, 1, none⟩ = some (.slice A n c) ∧ w'.cell? ⟨w.heap.size + 1, 0, none⟩ = some (.bool bn) ∧ w'.cell? ⟨w.heap.size + 1, 1, none⟩ = some (.slice C m d)) (refine ⟨?_, ?_, ?_, ?_⟩ <;> simp [go_sem]) (first | (go_at_call_of 60 (Value.agg #[.bool an, .slice A n c]); (with_reducible refine (rgood_h h1 _ (by first | exact ha.out | (have q := ha.out; exact q.plus (by repeat' (first | exact Plus.refl _ | refine Plus.alloc ?_ _ | refine Plus.plus ?_ _ | refine Plus.drew ?_ | refine Plus.drewN ?_ _))))).mono ?_); rintro e w1 ⟨A1, c1, rfl, q1, q2, q3, ⟨x1, rfl⟩⟩; have HN1 := Lib.hid q3; clear q1 q2 q3) | (go_at_call 60; (with_reducible refine (rgood_h h2 _ (by first | exact hb.out | (have q := hb.out; exact q.plus (by repeat' (first | exact Plus.refl _ | refine Plus.alloc ?_ _ | refine Plus.plus ?_ _ | refine Plus.drew ?_ | refine Plus.drewN ?_ _))))).mono ?_); rintro e w1 ⟨A2, c2, rfl, q1, q2, q3, ⟨x2, rfl⟩⟩; have HN2 := Lib.hid q3; clear q1 q2 q3) | (go_at_call 23; (with_reducible refine (rbig_c p q v A1 A2 us vs us.length c1 vs.length c2 hv _ (Lib.hid (by have q := HN1.out; (try simp only [plus_drew] at q); first | exact q | exact q.plus (by repeat' (first | exact Plus.refl _ | refine Plus.alloc ?_ _ | refine Plus.plus ?_ _ | refine Plus.drew ?_ | refine Plus.drewN ?_ _)))) (Lib.hid (by have q := HN2.out; (try simp only [plus_drew] at q); first | exact q | exact q.plus (by repeat' (first | exact Plus.refl _ | refine Plus.alloc ?_ _ | refine Plus.plus ?_ _ | refine Plus.drew ?_ | refine Plus.drewN ?_ _)))) (Lib.hid rfl) (Lib.hid rfl) (Lib.hid hu) (Lib.hid hu2)).mono ?_); rintro e w1 ⟨rfl, ⟨x3, rfl⟩⟩))
  all_goals
    go_wp2_with fail
    go_ret
    exact ⟨rfl, (by repeat' (first | exact Plus.refl _ | refine Plus.alloc ?_ _ | refine Plus.plus ?_ _ | refine Plus.drew ?_ | refine Plus.drewN ?_ _))⟩
theorem rsame_n {an bn : Bool} {A C : Option Addr} {xs ys : List Nat} {n c m d : Nat} {a b : Int} (hA : Hid (bigI an xs = a)) (hB : Hid (bigI bn ys = b)) {v : Bool} (hr : Hid (decide (a = b) = v)) (w : World) (ha : Arg w A xs n c) (hb : Arg w C ys m d) : Calls Try.prog 31 #[.agg #[.bool an, .slice A n c], .agg #[.bool bn, .slice C m d]] w fun e w' => e = .returned (.bool v) ∧ Plus w w' := by
  have hab : (bigI an xs).natAbs < B ^ 8 := bigI_abs ha.lim.1
  have hbb : (bigI bn ys).natAbs < B ^ 8 := bigI_abs hb.lim.1
  refine rsame_h an bn _ _ v A C xs ys n c m d _ _ (Lib.hid ⟨rfl, rfl⟩) (Lib.hid ⟨rfl, rfl⟩) (Lib.hid ?_) (by have := dig_len_le hab; omega) (by have := dig_len_le hbb; omega) w (Lib.hid ha) (Lib.hid hb)
  rw [← hr.out, ← hA.out, ← hB.out]
  apply decide_eq_decide.2
  constructor
  · rintro ⟨e1, e2⟩
    have m1 := (Nm.mk' hab).val
    have m2 := (Nm.mk' hbb).val
    rw [← m1, ← m2, e1, e2]
  · intro e
    rw [e]
    exact ⟨rfl, rfl⟩
end Go.Proofs.Ythaokkmbghgopaa
