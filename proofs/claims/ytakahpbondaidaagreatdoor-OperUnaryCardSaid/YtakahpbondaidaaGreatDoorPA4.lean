/- renref2.Add. -/
import Derived.Test.YtakahpbondaidaaGreatDoorPZP
import Derived.Test.YtakahpbondaidaaGreatDoorPA3
namespace Go.Proofs.YtakahpbondaidaaGreatDoor.Bg
open Go.RowKit

theorem rsum_n (p q pb : Bool) (A C : Option Addr) (xs ys : List Nat) (n c m d : Nat) (vs : List Nat) (R : Int) (hR : Hid (sgn p (val xs) + sgn q (val ys) = R)) (h2 : Hid (decide (R < 0) = pb ∧ dig R.natAbs = vs)) (w : World) (ha : Lim w A xs) (hb : Lim w C ys) (hn : n = xs.length) (hm : m = ys.length) (hl : xs.length ≤ 8) (kl : ys.length ≤ 8) :
    Calls Tryz.prog 231 #[.agg #[.bool p, .slice A n c], .agg #[.bool q, .slice C m d]] w fun e w' => ∃ (A1 : Option Addr) (c1 : Nat), e = .returned (.agg #[.bool pb, .slice A1 vs.length c1]) ∧ vs.length ≤ c1 ∧ c1 ≤ 9223372036854775807 ∧ Lim w' A1 vs ∧ Plus w w' := by
  have hx : val xs < B ^ 8 := Nat.lt_of_lt_of_le (val_lt ha.1) (Nat.pow_le_pow_right (by decide) hl)
  have hy : val ys < B ^ 8 := Nat.lt_of_lt_of_le (val_lt hb.1) (Nat.pow_le_pow_right (by decide) kl)
  have hB : B ^ 8 = 115792089237316195423570985008687907853269984665640564039457584007913129639936 := by decide
  have hB9 : B ^ 9 = 497323236409786642155382248146820840100456150797347717440463976893159497012533375533056 := by decide
  have hlen : ∀ V, V < B ^ 9 → Hid ((dig V).length ≤ 2097152) := fun V hV => Lib.hid (by have := dig_len_le hV; omega)
  have h1 := hR.out
  have hc := Nat.lt_or_ge (val xs) (val ys)
  cases p <;> cases q
  · rw [sgn_fa, sgn_fa] at h1
    exact rsum_ef pb A C xs ys _ n c m d vs R (Lib.hid rfl) (Lib.hid (by rw [val_dig, sgn_fa]; omega)) h2 (hlen _ (by omega)) w (Lib.hid ha) (Lib.hid hb) (Lib.hid hn) (Lib.hid hm) (Lib.hid (by omega)) (Lib.hid (by omega))
  · rw [sgn_fa, sgn_tr] at h1
    rcases hc with hc | hc
    · exact rsum_lf pb A C xs ys _ n c m d vs R (Lib.hid rfl) (Lib.hid (by omega)) (Lib.hid (cmpI_lt hc)) (Lib.hid (by rw [val_dig, sgn_tr]; omega)) h2 (hlen _ (by omega)) w (Lib.hid ha) (Lib.hid hb) (Lib.hid hn) (Lib.hid hm) (Lib.hid (by omega)) (Lib.hid (by omega))
    · exact rsum_gf pb A C xs ys _ n c m d vs R (Lib.hid rfl) (Lib.hid hc) _ (Lib.hid rfl) (by unfold cmpI; (repeat' split) <;> omega) (Lib.hid (by rw [val_dig, sgn_fa]; omega)) h2 (hlen _ (by omega)) w (Lib.hid ha) (Lib.hid hb) (Lib.hid hn) (Lib.hid hm) (Lib.hid (by omega)) (Lib.hid (by omega))
  · rw [sgn_tr, sgn_fa] at h1
    rcases hc with hc | hc
    · exact rsum_lt pb A C xs ys _ n c m d vs R (Lib.hid rfl) (Lib.hid (by omega)) (Lib.hid (cmpI_lt hc)) (Lib.hid (by rw [val_dig, sgn_fa]; omega)) h2 (hlen _ (by omega)) w (Lib.hid ha) (Lib.hid hb) (Lib.hid hn) (Lib.hid hm) (Lib.hid (by omega)) (Lib.hid (by omega))
    · exact rsum_gt pb A C xs ys _ n c m d vs R (Lib.hid rfl) (Lib.hid hc) _ (Lib.hid rfl) (by unfold cmpI; (repeat' split) <;> omega) (Lib.hid (by rw [val_dig, sgn_tr]; omega)) h2 (hlen _ (by omega)) w (Lib.hid ha) (Lib.hid hb) (Lib.hid hn) (Lib.hid hm) (Lib.hid (by omega)) (Lib.hid (by omega))
  · rw [sgn_tr, sgn_tr] at h1
    exact rsum_et pb A C xs ys _ n c m d vs R (Lib.hid rfl) (Lib.hid (by rw [val_dig, sgn_tr]; omega)) h2 (hlen _ (by omega)) w (Lib.hid ha) (Lib.hid hb) (Lib.hid hn) (Lib.hid hm) (Lib.hid (by omega)) (Lib.hid (by omega))

theorem rfits_y (p : Bool) (A : Option Addr) (n c : Nat) (w : World) (hn : n ≤ 8) : Calls Tryz.prog 230 #[.agg #[.bool p, .slice A n c]] w fun e w' => e = .returned (.tuple #[.agg #[.bool p, .slice A n c], .bool true]) ∧ Plus w w' := by
  have h : (n : Int) ≤ 8 := by omega
  go_enter Tryz.func230, Tryz.ntmps230
  go_wp2_with fail
  go_returns
  exact ⟨rfl, (by repeat' (first | exact Plus.refl _ | refine Plus.alloc ?_ _ | refine Plus.plus ?_ _ | refine Plus.drew ?_ | refine Plus.drewN ?_ _))⟩
theorem rfits_no (p : Bool) (A : Option Addr) (n c : Nat) (w : World) (hn : 8 < n) : Calls Tryz.prog 230 #[.agg #[.bool p, .slice A n c]] w fun e w' => e = .returned (.tuple #[.agg #[.bool false, .slice none 0 0], .bool false]) ∧ Plus w w' := by
  have h : (8 : Int) < (n : Int) := by omega
  go_enter Tryz.func230, Tryz.ntmps230
  go_wp2_with fail
  go_returns
  exact ⟨rfl, (by repeat' (first | exact Plus.refl _ | refine Plus.alloc ?_ _ | refine Plus.plus ?_ _ | refine Plus.drew ?_ | refine Plus.drewN ?_ _))⟩
set_option maxRecDepth 100000 in
set_option maxHeartbeats 4000000 in
theorem rAdd_y (an bn p q pb : Bool) (A C : Option Addr) (xs ys : List Nat) (n c m d : Nat) (us vs ws : List Nat) (R : Int) (h1 : Hid (decide (bigI an xs < 0) = p ∧ dig (bigI an xs).natAbs = us)) (h2 : Hid (decide (bigI bn ys < 0) = q ∧ dig (bigI bn ys).natAbs = vs)) (hu : Hid (us.length ≤ 8)) (hv : Hid (vs.length ≤ 8)) (hR : Hid (sgn p (val us) + sgn q (val vs) = R)) (h3 : Hid (decide (R < 0) = pb ∧ dig R.natAbs = ws)) (hw : Hid (ws.length ≤ 8)) (w : World) (ha : Hid (Arg w A xs n c)) (hb : Hid (Arg w C ys m d)) :
    Calls Tryz.prog 165 #[.agg #[.bool an, .slice A n c], .agg #[.bool bn, .slice C m d]] w fun e w' => ∃ (A1 : Option Addr) (c1 : Nat), e = .returned (.tuple #[.agg #[.bool pb, .slice A1 ws.length c1], .bool true]) ∧ ws.length ≤ c1 ∧ c1 ≤ 9223372036854775807 ∧ Lim w' A1 ws ∧ Plus w w' := by
  go_enter Tryz.func165, Tryz.ntmps165
  go_upto_region 1 with fail
  go_region_held3 (fun w' => w'.cell? ⟨w.heap.size, 0, none⟩ = some (.bool an) ∧ w'.cell? ⟨w.heap.size, 1, none⟩ = some (.slice A n c) ∧ w'.cell? ⟨w.heap.size + 1, 0, none⟩ = some (.bool bn) ∧ w'.cell? ⟨w.heap.size + 1, 1, none⟩ = some (.slice C m d)) (refine ⟨?_, ?_, ?_, ?_⟩ <;> simp [go_sem]) (first | (go_at_call_of 124 (Value.agg #[.bool an, .slice A n c]); (with_reducible refine (rgood_h h1 _ (by first | exact ha.out | (have q := ha.out; exact q.plus (by repeat' (first | exact Plus.refl _ | refine Plus.alloc ?_ _ | refine Plus.plus ?_ _ | refine Plus.drew ?_ | refine Plus.drewN ?_ _))))).mono ?_); rintro e w1 ⟨A1, c1, rfl, q1, q2, q3, ⟨x1, rfl⟩⟩; have HN1 := Lib.hid q3; clear q1 q2 q3) | (go_at_call 124; (with_reducible refine (rgood_h h2 _ (by first | exact hb.out | (have q := hb.out; exact q.plus (by repeat' (first | exact Plus.refl _ | refine Plus.alloc ?_ _ | refine Plus.plus ?_ _ | refine Plus.drew ?_ | refine Plus.drewN ?_ _))))).mono ?_); rintro e w1 ⟨A2, c2, rfl, q1, q2, q3, ⟨x2, rfl⟩⟩; have HN2 := Lib.hid q3; clear q1 q2 q3) | (go_at_call 231; (with_reducible refine (rsum_n _ _ pb A1 A2 us vs us.length c1 vs.length c2 ws R hR h3 _ (by have q := HN1.out; (try simp only [plus_drew] at q); first | exact q | exact q.plus (by repeat' (first | exact Plus.refl _ | refine Plus.alloc ?_ _ | refine Plus.plus ?_ _ | refine Plus.drew ?_ | refine Plus.drewN ?_ _))) (by have q := HN2.out; (try simp only [plus_drew] at q); first | exact q | exact q.plus (by repeat' (first | exact Plus.refl _ | refine Plus.alloc ?_ _ | refine Plus.plus ?_ _ | refine Plus.drew ?_ | refine Plus.drewN ?_ _))) rfl rfl hu.out hv.out).mono ?_); rintro e w1 ⟨A3, c3, rfl, r1, r2, r3, ⟨x3, rfl⟩⟩; have HR := Lib.hid r3; have HR1 := Lib.hid r1; clear r3 r1) | (go_at_call 230; (with_reducible refine (rfits_y _ A3 _ c3 _ hw.out).mono ?_); rintro e w1 ⟨rfl, ⟨x4, rfl⟩⟩))
  all_goals
    go_wp2_with fail
    go_returns
    refine ⟨A3, c3, rfl, HR1.out, r2, ?_, ?_⟩
    · have q2 := HR.out
      first | exact q2.res3.grow _ | (simp only [plus_drew] at q2; exact q2.res3.grow _)
    · repeat' (first | exact Plus.refl _ | refine Plus.alloc ?_ _ | refine Plus.plus ?_ _ | refine Plus.drew ?_ | refine Plus.drewN ?_ _)

set_option maxRecDepth 100000 in
set_option maxHeartbeats 4000000 in
theorem rAdd_no (an bn p q pb : Bool) (A C : Option Addr) (xs ys : List Nat) (n c m d : Nat) (us vs ws : List Nat) (R : Int) (h1 : Hid (decide (bigI an xs < 0) = p ∧ dig (bigI an xs).natAbs = us)) (h2 : Hid (decide (bigI bn ys < 0) = q ∧ dig (bigI bn ys).natAbs = vs)) (hu : Hid (us.length ≤ 8)) (hv : Hid (vs.length ≤ 8)) (hR : Hid (sgn p (val us) + sgn q (val vs) = R)) (h3 : Hid (decide (R < 0) = pb ∧ dig R.natAbs = ws)) (hw : Hid (8 < ws.length)) (w : World) (ha : Hid (Arg w A xs n c)) (hb : Hid (Arg w C ys m d)) :
    Calls Tryz.prog 165 #[.agg #[.bool an, .slice A n c], .agg #[.bool bn, .slice C m d]] w fun e w' => e = .returned (.tuple #[.agg #[.bool false, .slice none 0 0], .bool false]) ∧ Plus w w' := by
  go_enter Tryz.func165, Tryz.ntmps165
  go_upto_region 1 with fail
  go_region_held3 (fun w' => w'.cell? ⟨w.heap.size, 0, none⟩ = some (.bool an) ∧ w'.cell? ⟨w.heap.size, 1, none⟩ = some (.slice A n c) ∧ w'.cell? ⟨w.heap.size + 1, 0, none⟩ = some (.bool bn) ∧ w'.cell? ⟨w.heap.size + 1, 1, none⟩ = some (.slice C m d)) (refine ⟨?_, ?_, ?_, ?_⟩ <;> simp [go_sem]) (first | (go_at_call_of 124 (Value.agg #[.bool an, .slice A n c]); (with_reducible refine (rgood_h h1 _ (by first | exact ha.out | (have q := ha.out; exact q.plus (by repeat' (first | exact Plus.refl _ | refine Plus.alloc ?_ _ | refine Plus.plus ?_ _ | refine Plus.drew ?_ | refine Plus.drewN ?_ _))))).mono ?_); rintro e w1 ⟨A1, c1, rfl, q1, q2, q3, ⟨x1, rfl⟩⟩; have HN1 := Lib.hid q3; clear q1 q2 q3) | (go_at_call 124; (with_reducible refine (rgood_h h2 _ (by first | exact hb.out | (have q := hb.out; exact q.plus (by repeat' (first | exact Plus.refl _ | refine Plus.alloc ?_ _ | refine Plus.plus ?_ _ | refine Plus.drew ?_ | refine Plus.drewN ?_ _))))).mono ?_); rintro e w1 ⟨A2, c2, rfl, q1, q2, q3, ⟨x2, rfl⟩⟩; have HN2 := Lib.hid q3; clear q1 q2 q3) | (go_at_call 231; (with_reducible refine (rsum_n _ _ pb A1 A2 us vs us.length c1 vs.length c2 ws R hR h3 _ (by have q := HN1.out; (try simp only [plus_drew] at q); first | exact q | exact q.plus (by repeat' (first | exact Plus.refl _ | refine Plus.alloc ?_ _ | refine Plus.plus ?_ _ | refine Plus.drew ?_ | refine Plus.drewN ?_ _))) (by have q := HN2.out; (try simp only [plus_drew] at q); first | exact q | exact q.plus (by repeat' (first | exact Plus.refl _ | refine Plus.alloc ?_ _ | refine Plus.plus ?_ _ | refine Plus.drew ?_ | refine Plus.drewN ?_ _))) rfl rfl hu.out hv.out).mono ?_); rintro e w1 ⟨A3, c3, rfl, r1, r2, r3, ⟨x3, rfl⟩⟩; have HR := Lib.hid r3; have HR1 := Lib.hid r1; clear r3 r1) | (go_at_call 230; (with_reducible refine (rfits_no _ A3 _ c3 _ hw.out).mono ?_); rintro e w1 ⟨rfl, ⟨x4, rfl⟩⟩))
  all_goals
    go_wp2_with fail
    go_returns
    exact ⟨rfl, (by repeat' (first | exact Plus.refl _ | refine Plus.alloc ?_ _ | refine Plus.plus ?_ _ | refine Plus.drew ?_ | refine Plus.drewN ?_ _))⟩

end Go.Proofs.YtakahpbondaidaaGreatDoor.Bg
namespace Go.Proofs.YtakahpbondaidaaGreatDoor.Bg
open Go.RowKit

section
variable {pb : Bool} {us : List Nat} {r : Int}

theorem rAdd_n {an bn : Bool} {A C : Option Addr} {xs ys : List Nat} {n c m d : Nat} {a b : Int} (hA : Hid (bigI an xs = a)) (hB : Hid (bigI bn ys = b)) {ok : Bool} (hr : Hid (AddN a b r ok pb us)) (w : World) (ha : Arg w A xs n c) (hb : Arg w C ys m d) : Calls Tryz.prog 165 #[.agg #[.bool an, .slice A n c], .agg #[.bool bn, .slice C m d]] w fun e w' => ∃ (A1 : Option Addr) (c1 : Nat), e = .returned (.tuple #[.agg #[.bool pb, .slice A1 us.length c1], .bool ok]) ∧ Arg w' A1 us us.length c1 ∧ Plus w w' := by
  have hab : (bigI an xs).natAbs < B ^ 8 := bigI_abs ha.lim.1
  have hbb : (bigI bn ys).natAbs < B ^ 8 := bigI_abs hb.lim.1
  obtain ⟨h1, h2, h3⟩ := hr.out
  have ⟨e1, e2, e3⟩ := h1
  by_cases hs : (a + b).natAbs < B ^ 8
  · rw [if_pos hs] at h3
    obtain rfl : ok = true := h2.trans (decide_eq_true hs)
    have h := rAdd_y an bn _ _ pb A C xs ys n c m d _ _ us r (Lib.hid ⟨rfl, rfl⟩) (Lib.hid ⟨rfl, rfl⟩) (Lib.hid (dig_len_le hab)) (Lib.hid (dig_len_le hbb)) (Lib.hid (by rw [val_dig, val_dig, sgn_self, sgn_self, hA.out, hB.out]; (try omega))) (Lib.hid ⟨e1, e2⟩) (Lib.hid (by rw [← e2]; exact dig_len_le e3)) w (Lib.hid ha) (Lib.hid hb)
    exact h.mono fun _ _ ⟨A1, c1, q0, q1, q2, q3, q4⟩ => ⟨A1, c1, q0, h1.arg (by rw [e2]; exact q1) q2 (by rw [e2]; exact q3), q4⟩
  · rw [if_neg hs] at h3
    obtain rfl : ok = false := h2.trans (decide_eq_false hs)
    subst h3
    have h := rAdd_no an bn _ _ _ A C xs ys n c m d _ _ _ (a + b) (Lib.hid ⟨rfl, rfl⟩) (Lib.hid ⟨rfl, rfl⟩) (Lib.hid (dig_len_le hab)) (Lib.hid (dig_len_le hbb)) (Lib.hid (by rw [val_dig, val_dig, sgn_self, sgn_self, hA.out, hB.out]; (try omega))) (Lib.hid ⟨rfl, rfl⟩) (Lib.hid (Nat.lt_of_not_le fun q => hs (dig_long.1 q))) w (Lib.hid ha) (Lib.hid hb)
    have e4 : us = [] := by rw [← e2]; exact dig_zero
    have e5 : pb = false := by rw [← e1]; rfl
    subst e4 e5
    exact h.mono fun _ _ ⟨q0, q1⟩ => ⟨none, 0, q0, h1.arg (by rw [e2]; exact Nat.le_refl _) (by omega) (by rw [e2]; exact Lim.nil), q1⟩

end

end Go.Proofs.YtakahpbondaidaaGreatDoor.Bg
