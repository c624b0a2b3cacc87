/- The document's BigInts: Add, Sub. -/
import Derived.Test.YthaokkmbghgopaaD9
namespace Go.Proofs.Ythaokkmbghgopaa
open Go.RowKit


theorem rsum_n (p q pb : Bool) (A C : Option Addr) (xs ys : List Nat) (n c m d : Nat) (vs : List Nat) (R : Int) (hR : Hid (sgn p (val xs) + sgn q (val ys) = R)) (h2 : Hid (decide (R < 0) = pb ∧ dig R.natAbs = vs)) (w : World) (ha : Lim w A xs) (hb : Lim w C ys) (hn : n = xs.length) (hm : m = ys.length) (hl : xs.length ≤ 8) (kl : ys.length ≤ 8) :
    Calls Try.prog 59 #[.agg #[.bool p, .slice A n c], .agg #[.bool q, .slice C m d]] w fun e w' => ∃ (A1 : Option Addr) (c1 : Nat), e = .returned (.agg #[.bool pb, .slice A1 vs.length c1]) ∧ vs.length ≤ c1 ∧ c1 ≤ 9223372036854775807 ∧ Lim w' A1 vs ∧ Plus w w' := by
  have hx : val xs < B ^ 8 := Nat.lt_of_lt_of_le (val_lt ha.1) (Nat.pow_le_pow_right (by decide) hl)
  have hy : val ys < B ^ 8 := Nat.lt_of_lt_of_le (val_lt hb.1) (Nat.pow_le_pow_right (by decide) kl)
  have hB : B ^ 8 = 115792089237316195423570985008687907853269984665640564039457584007913129639936 := by decide
  have hB9 : B ^ 9 = 497323236409786642155382248146820840100456150797347717440463976893159497012533375533056 := by decide
  have hlen : ∀ V, V < B ^ 9 → Hid ((dig V).length ≤ 2097152) := fun V hV => Lib.hid (by have := dig_len_le hV; omega)
  have h1 := hR.out
  have hc := Nat.lt_or_ge (val xs) (val ys)
  cases p <;> cases q
  · rw [sgn_fa, sgn_fa] at h1
    exact rsum_ef pb A C xs ys _ n c m d vs R (Lib.hid rfl) (Lib.hid (by rw [val_dig, sgn_fa]; omega)) h2 (hlen _ (by omega)) w (Lib.hid ha) (Lib.hid hb) (Lib.hid hn) (Lib.hid hm) (Lib.hid (by omega)) (Lib.hid (by omega))
  · rw [sgn_fa, sgn_tr] at h1
    rcases hc with hc | hc
    · exact rsum_lf pb A C xs ys _ n c m d vs R (Lib.hid rfl) (Lib.hid (by omega)) (Lib.hid (cmpI_lt hc)) (Lib.hid (by rw [val_dig, sgn_tr]; omega)) h2 (hlen _ (by omega)) w (Lib.hid ha) (Lib.hid hb) (Lib.hid hn) (Lib.hid hm) (Lib.hid (by omega)) (Lib.hid (by omega))
    · exact rsum_gf pb A C xs ys _ n c m d vs R (Lib.hid rfl) (Lib.hid hc) _ (Lib.hid rfl) (by unfold cmpI; (repeat' split) <;> omega) (Lib.hid (by rw [val_dig, sgn_fa]; omega)) h2 (hlen _ (by omega)) w (Lib.hid ha) (Lib.hid hb) (Lib.hid hn) (Lib.hid hm) (Lib.hid (by omega)) (Lib.hid (by omega))
  · rw [sgn_tr, sgn_fa] at h1
    rcases hc with hc | hc
    · exact rsum_lt pb A C xs ys _ n c m d vs R (Lib.hid rfl) (Lib.hid (by omega)) (Lib.hid (cmpI_lt hc)) (Lib.hid (by rw [val_dig, sgn_fa]; omega)) h2 (hlen _ (by omega)) w (Lib.hid ha) (Lib.hid hb) (Lib.hid hn) (Lib.hid hm) (Lib.hid (by omega)) (Lib.hid (by omega))
    · exact rsum_gt pb A C xs ys _ n c m d vs R (Lib.hid rfl) (Lib.hid hc) _ (Lib.hid rfl) (by unfold cmpI; (repeat' split) <;> omega) (Lib.hid (by rw [val_dig, sgn_tr]; omega)) h2 (hlen _ (by omega)) w (Lib.hid ha) (Lib.hid hb) (Lib.hid hn) (Lib.hid hm) (Lib.hid (by omega)) (Lib.hid (by omega))
  · rw [sgn_tr, sgn_tr] at h1
    exact rsum_et pb A C xs ys _ n c m d vs R (Lib.hid rfl) (Lib.hid (by rw [val_dig, sgn_tr]; omega)) h2 (hlen _ (by omega)) w (Lib.hid ha) (Lib.hid hb) (Lib.hid hn) (Lib.hid hm) (Lib.hid (by omega)) (Lib.hid (by omega))

theorem rfits_y (p : Bool) (A : Option Addr) (n c : Nat) (w : World) (hn : n ≤ 8) : Calls Try.prog 58 #[.agg #[.bool p, .slice A n c]] w fun e w' => e = .returned (.tuple #[.agg #[.bool p, .slice A n c], .bool true]) ∧ Plus w w' := by
  have h : (n : Int) ≤ 8 := by omega
  go_enter Try.func58, Try.ntmps58
  go_wp2_with fail
  go_returns
  exact ⟨rfl, (by repeat' (first | exact Plus.refl _ | refine Plus.alloc ?_ _ | refine Plus.plus ?_ _ | refine Plus.drew ?_ | refine Plus.drewN ?_ _))⟩
theorem rfits_no (p : Bool) (A : Option Addr) (n c : Nat) (w : World) (hn : 8 < n) : Calls Try.prog 58 #[.agg #[.bool p, .slice A n c]] w fun e w' => e = .returned (.tuple #[.agg #[.bool false, .slice none 0 0], .bool false]) ∧ Plus w w' := by
  have h : (8 : Int) < (n : Int) := by omega
  go_enter Try.func58, Try.ntmps58
  go_wp2_with fail
  go_returns
  exact ⟨rfl, (by repeat' (first | exact Plus.refl _ | refine Plus.alloc ?_ _ | refine Plus.plus ?_ _ | refine Plus.drew ?_ | refine Plus.drewN ?_ _))⟩
theorem rneg_g {neg pb : Bool} {A : Option Addr} {xs us : List Nat} {n c : Nat} (hid : Hid (decide (-(bigI neg xs) < 0) = pb ∧ dig (-(bigI neg xs)).natAbs = us)) (w : World) (h : Arg w A xs n c) :
    Calls Try.prog 33 #[.agg #[.bool neg, .slice A n c]] w fun e w' => ∃ (A1 : Option Addr) (c1 : Nat), e = .returned (.agg #[.bool pb, .slice A1 us.length c1]) ∧ us.length ≤ c1 ∧ c1 ≤ 9223372036854775807 ∧ Lim w' A1 us ∧ Plus w w' := by
  obtain ⟨rfl, rfl⟩ := hid.out
  exact rneg_c w h

set_option maxRecDepth 100000 in
set_option maxHeartbeats 4000000 in
theorem rAdd_y (an bn p q pb : Bool) (A C : Option Addr) (xs ys : List Nat) (n c m d : Nat) (us vs ws : List Nat) (R : Int) (h1 : Hid (decide (bigI an xs < 0) = p ∧ dig (bigI an xs).natAbs = us)) (h2 : Hid (decide (bigI bn ys < 0) = q ∧ dig (bigI bn ys).natAbs = vs)) (hu : Hid (us.length ≤ 8)) (hv : Hid (vs.length ≤ 8)) (hR : Hid (sgn p (val us) + sgn q (val vs) = R)) (h3 : Hid (decide (R < 0) = pb ∧ dig R.natAbs = ws)) (hw : Hid (ws.length ≤ 8)) (w : World) (ha : Hid (Arg w A xs n c)) (hb : Hid (Arg w C ys m d)) :
    Calls Try.prog 18 #[.agg #[.bool an, .slice A n c], .agg #[.bool bn, .slice C m d]] w fun e w' => ∃ (A1 : Option Addr) (c1 : Nat), e = .returned (.tuple #[.agg #[.bool pb, .slice A1 ws.length c1], .bool true]) ∧ ws.length ≤ c1 ∧ c1 ≤ 9223372036854775807 ∧ Lim w' A1 ws ∧ Plus w w' := by
  go_enter Try.func18, Try.ntmps18
  go_upto_region 1 with fail
  go_region_held3 (fun w' => w'.cell? ⟨w.heap.size, 0, none⟩ = some (.bool an) ∧ w'.cell? ⟨w.heap.size, 1, none⟩ = some (.slice A n c) ∧ w'.cell? ⟨w.heap.size + 1, 0, none⟩ = some (.bool bn) ∧ w'.cell? ⟨w.heap.size + 1, 1, none⟩ = some (.slice C m d)) (refine ⟨?_, ?_, ?_, ?_⟩ <;> simp [go_sem]) (first | (go_at_call_of 60 (Value.agg #[.bool an, .slice A n c]); (with_reducible refine (rgood_h h1 _ (by first | exact ha.out | (have q := ha.out; exact q.plus (by repeat' (first | exact Plus.refl _ | refine Plus.alloc ?_ _ | refine Plus.plus ?_ _ | refine Plus.drew ?_ | refine Plus.drewN ?_ _))))).mono ?_); rintro e w1 ⟨A1, c1, rfl, q1, q2, q3, ⟨x1, rfl⟩⟩; have HN1 := Lib.hid q3; clear q1 q2 q3) | (go_at_call 60; (with_reducible refine (rgood_h h2 _ (by first | exact hb.out | (have q := hb.out; exact q.plus (by repeat' (first | exact Plus.refl _ | refine Plus.alloc ?_ _ | refine Plus.plus ?_ _ | refine Plus.drew ?_ | refine Plus.drewN ?_ _))))).mono ?_); rintro e w1 ⟨A2, c2, rfl, q1, q2, q3, ⟨x2, rfl⟩⟩; have HN2 := Lib.hid q3; clear q1 q2 q3) | (go_at_call 59; (with_reducible refine (rsum_n _ _ pb A1 A2 us vs us.length c1 vs.length c2 ws R hR h3 _ (by have q := HN1.out; (try simp only [plus_drew] at q); first | exact q | exact q.plus (by repeat' (first | exact Plus.refl _ | refine Plus.alloc ?_ _ | refine Plus.plus ?_ _ | refine Plus.drew ?_ | refine Plus.drewN ?_ _))) (by have q := HN2.out; (try simp only [plus_drew] at q); first | exact q | exact q.plus (by repeat' (first | exact Plus.refl _ | refine Plus.alloc ?_ _ | refine Plus.plus ?_ _ | refine Plus.drew ?_ | refine Plus.drewN ?_ _))) rfl rfl hu.out hv.out).mono ?_); rintro e w1 ⟨A3, c3, rfl, r1, r2, r3, ⟨x3, rfl⟩⟩; have HR := Lib.hid r3; have HR1 := Lib.hid r1; clear r3 r1) | (go_at_call 58; (with_reducible refine (rfits_y _ A3 _ c3 _ hw.out).mono ?_); rintro e w1 ⟨rfl, ⟨x4, rfl⟩⟩))
  all_goals
    go_wp2_with fail
    go_returns
    refine ⟨A3, c3, rfl, HR1.out, r2, ?_, ?_⟩
    · have q2 := HR.out
      first | exact q2.res3.grow _ | (simp only [plus_drew] at q2; exact q2.res3.grow _)
    · repeat' (first | exact Plus.refl _ | refine Plus.alloc ?_ _ | refine Plus.plus ?_ _ | refine Plus.drew ?_ | refine Plus.drewN ?_ _)

set_option maxRecDepth 100000 in
set_option maxHeartbeats 4000000 in
theorem rAdd_no (an bn p q pb : Bool) (A C : Option Addr) (xs ys : List Nat) (n c m d : Nat) (us vs ws : List Nat) (R : Int) (h1 : Hid (decide (bigI an xs < 0) = p ∧ dig (bigI an xs).natAbs = us)) (h2 : Hid (decide (bigI bn ys < 0) = q ∧ dig (bigI bn ys).natAbs = vs)) (hu : Hid (us.length ≤ 8)) (hv : Hid (vs.length ≤ 8)) (hR : Hid (sgn p (val us) + sgn q (val vs) = R)) (h3 : Hid (decide (R < 0) = pb ∧ dig R.natAbs = ws)) (hw : Hid (8 < ws.length)) (w : World) (ha : Hid (Arg w A xs n c)) (hb : Hid (Arg w C ys m d)) :
    Calls Try.prog 18 #[.agg #[.bool an, .slice A n c], .agg #[.bool bn, .slice C m d]] w fun e w' => e = .returned (.tuple #[.agg #[.bool false, .slice none 0 0], .bool false]) ∧ Plus w w' := by
  go_enter Try.func18, Try.ntmps18
  go_upto_region 1 with fail
  go_region_held3 (fun w' => w'.cell? ⟨w.heap.size, 0, none⟩ = some (.bool an) ∧ w'.cell? ⟨w.heap.size, 1, none⟩ = some (.slice A n c) ∧ w'.cell? ⟨w.heap.size + 1, 0, none⟩ = some (.bool bn) ∧ w'.cell? ⟨w.heap.size + 1, 1, none⟩ = some (.slice C m d)) (refine ⟨?_, ?_, ?_, ?_⟩ <;> simp [go_sem]) (first | (go_at_call_of 60 (Value.agg #[.bool an, .slice A n c]); (with_reducible refine (rgood_h h1 _ (by first | exact ha.out | (have q := ha.out; exact q.plus (by repeat' (first | exact Plus.refl _ | refine Plus.alloc ?_ _ | refine Plus.plus ?_ _ | refine Plus.drew ?_ | refine Plus.drewN ?_ _))))).mono ?_); rintro e w1 ⟨A1, c1, rfl, q1, q2, q3, ⟨x1, rfl⟩⟩; have HN1 := Lib.hid q3; clear q1 q2 q3) | (go_at_call 60; (with_reducible refine (rgood_h h2 _ (by first | exact hb.out | (have q := hb.out; exact q.plus (by repeat' (first | exact Plus.refl _ | refine Plus.alloc ?_ _ | refine Plus.plus ?_ _ | refine Plus.drew ?_ | refine Plus.drewN ?_ _))))).mono ?_); rintro e w1 ⟨A2, c2, rfl, q1, q2, q3, ⟨x2, rfl⟩⟩; have HN2 := Lib.hid q3; clear q1 q2 q3) | (go_at_call 59; (with_reducible refine (rsum_n _ _ pb A1 A2 us vs us.length c1 vs.length c2 ws R hR h3 _ (by have q := HN1.out; (try simp only [plus_drew] at q); first | exact q | exact q.plus (by repeat' (first | exact Plus.refl _ | refine Plus.alloc ?_ _ | refine Plus.plus ?_ _ | refine Plus.drew ?_ | refine Plus.drewN ?_ _))) (by have q := HN2.out; (try simp only [plus_drew] at q); first | exact q | exact q.plus (by repeat' (first | exact Plus.refl _ | refine Plus.alloc ?_ _ | refine Plus.plus ?_ _ | refine Plus.drew ?_ | refine Plus.drewN ?_ _))) rfl rfl hu.out hv.out).mono ?_); rintro e w1 ⟨A3, c3, rfl, r1, r2, r3, ⟨x3, rfl⟩⟩; have HR := Lib.hid r3; have HR1 := Lib.hid r1; clear r3 r1) | (go_at_call 58; (with_reducible refine (rfits_no _ A3 _ c3 _ hw.out).mono ?_); rintro e w1 ⟨rfl, ⟨x4, rfl⟩⟩))
  all_goals
    go_wp2_with fail
    go_returns
    exact ⟨rfl, (by repeat' (first | exact Plus.refl _ | refine Plus.alloc ?_ _ | refine Plus.plus ?_ _ | refine Plus.drew ?_ | refine Plus.drewN ?_ _))⟩

set_option maxRecDepth 100000 in
set_option maxHeartbeats 4000000 in
theorem rSub_y (an bn p q pb : Bool) (A C : Option Addr) (xs ys : List Nat) (n c m d : Nat) (us vs ws : List Nat) (R : Int) (h1 : Hid (decide (bigI an xs < 0) = p ∧ dig (bigI an xs).natAbs = us)) (h2 : Hid (decide (-(bigI bn ys) < 0) = q ∧ dig (-(bigI bn ys)).natAbs = vs)) (hu : Hid (us.length ≤ 8)) (hv : Hid (vs.length ≤ 8)) (hR : Hid (sgn p (val us) + sgn q (val vs) = R)) (h3 : Hid (decide (R < 0) = pb ∧ dig R.natAbs = ws)) (hw : Hid (ws.length ≤ 8)) (w : World) (ha : Hid (Arg w A xs n c)) (hb : Hid (Arg w C ys m d)) :
    Calls Try.prog 20 #[.agg #[.bool an, .slice A n c], .agg #[.bool bn, .slice C m d]] w fun e w' => ∃ (A1 : Option Addr) (c1 : Nat), e = .returned (.tuple #[.agg #[.bool pb, .slice A1 ws.length c1], .bool true]) ∧ ws.length ≤ c1 ∧ c1 ≤ 9223372036854775807 ∧ Lim w' A1 ws ∧ Plus w w' := by
  go_enter Try.func20, Try.ntmps20
  go_upto_region 1 with fail
  go_region_held3 (fun w' => w'.cell? ⟨w.heap.size, 0, none⟩ = some (.bool an) ∧ w'.cell? ⟨w.heap.size, 1, none⟩ = some (.slice A n c) ∧ w'.cell? ⟨w.heap.size + 1, 0, none⟩ = some (.bool bn) ∧ w'.cell? ⟨w.heap.size + 1, 1, none⟩ = some (.slice C m d)) (refine ⟨?_, ?_, ?_, ?_⟩ <;> simp [go_sem]) (first | (go_at_call_of 60 (Value.agg #[.bool an, .slice A n c]); (with_reducible refine (rgood_h h1 _ (by first | exact ha.out | (have q := ha.out; exact q.plus (by repeat' (first | exact Plus.refl _ | refine Plus.alloc ?_ _ | refine Plus.plus ?_ _ | refine Plus.drew ?_ | refine Plus.drewN ?_ _))))).mono ?_); rintro e w1 ⟨A1, c1, rfl, q1, q2, q3, ⟨x1, rfl⟩⟩; have HN1 := Lib.hid q3; clear q1 q2 q3) | (go_at_call 33; (with_reducible refine (rneg_g h2 _ (by first | exact hb.out | (have q := hb.out; exact q.plus (by repeat' (first | exact Plus.refl _ | refine Plus.alloc ?_ _ | refine Plus.plus ?_ _ | refine Plus.drew ?_ | refine Plus.drewN ?_ _))))).mono ?_); rintro e w1 ⟨A2, c2, rfl, q1, q2, q3, ⟨x2, rfl⟩⟩; have HN2 := Lib.hid q3; clear q1 q2 q3) | (go_at_call 59; (with_reducible refine (rsum_n _ _ pb A1 A2 us vs us.length c1 vs.length c2 ws R hR h3 _ (by have q := HN1.out; (try simp only [plus_drew] at q); first | exact q | exact q.plus (by repeat' (first | exact Plus.refl _ | refine Plus.alloc ?_ _ | refine Plus.plus ?_ _ | refine Plus.drew ?_ | refine Plus.drewN ?_ _))) (by have q := HN2.out; (try simp only [plus_drew] at q); first | exact q | exact q.plus (by repeat' (first | exact Plus.refl _ | refine Plus.alloc ?_ _ | refine Plus.plus ?_ _ | refine Plus.drew ?_ | refine Plus.drewN ?_ _))) rfl rfl hu.out hv.out).mono ?_); rintro e w1 ⟨A3, c3, rfl, r1, r2, r3, ⟨x3, rfl⟩⟩; have HR := Lib.hid r3; have HR1 := Lib.hid r1; clear r3 r1) | (go_at_call 58; (with_reducible refine (rfits_y _ A3 _ c3 _ hw.out).mono ?_); rintro e w1 ⟨rfl, ⟨x4, rfl⟩⟩))
  all_goals
    go_wp2_with fail
    go_returns
    refine ⟨A3, c3, rfl, HR1.out, r2, ?_, ?_⟩
    · have q2 := HR.out
      first | exact q2.res3.grow _ | (simp only [plus_drew] at q2; exact q2.res3.grow _)
    · repeat' (first | exact Plus.refl _ | refine Plus.alloc ?_ _ | refine Plus.plus ?_ _ | refine Plus.drew ?_ | refine Plus.drewN ?_ _)

set_option maxRecDepth 100000 in
set_option maxHeartbeats 4000000 in
theorem rSub_no (an bn p q pb : Bool) (A C : Option Addr) (xs ys : List Nat) (n c m d : Nat) (us vs ws : List Nat) (R : Int) (h1 : Hid (decide (bigI an xs < 0) = p ∧ dig (bigI an xs).natAbs = us)) (h2 : Hid (decide (-(bigI bn ys) < 0) = q ∧ dig (-(bigI bn ys)).natAbs = vs)) (hu : Hid (us.length ≤ 8)) (hv : Hid (vs.length ≤ 8)) (hR : Hid (sgn p (val us) + sgn q (val vs) = R)) (h3 : Hid (decide (R < 0) = pb ∧ dig R.natAbs = ws)) (hw : Hid (8 < ws.length)) (w : World) (ha : Hid (Arg w A xs n c)) (hb : Hid (Arg w C ys m d)) :
    Calls Try.prog 20 #[.agg #[.bool an, .slice A n c], .agg #[.bool bn, .slice C m d]] w fun e w' => e = .returned (.tuple #[.agg #[.bool false, .slice none 0 0], .bool false]) ∧ Plus w w' := by
  go_enter Try.func20, Try.ntmps20
  go_upto_region 1 with fail
  go_region_held3 (fun w' => w'.cell? ⟨w.heap.size, 0, none⟩ = some (.bool an) ∧ w'.cell? ⟨w.heap.size, 1, none⟩ = some (.slice A n c) ∧ w'.cell? ⟨w.heap.size + 1, 0, none⟩ = some (.bool bn) ∧ w'.cell? ⟨w.heap.size + 1, 1, none⟩ = some (.slice C m d)) (refine ⟨?_, ?_, ?_, ?_⟩ <;> simp [go_sem]) (first | (go_at_call_of 60 (Value.agg #[.bool an, .slice A n c]); (with_reducible refine (rgood_h h1 _ (by first | exact ha.out | (have q := ha.out; exact q.plus (by repeat' (first | exact Plus.refl _ | refine Plus.alloc ?_ _ | refine Plus.plus ?_ _ | refine Plus.drew ?_ | refine Plus.drewN ?_ _))))).mono ?_); rintro e w1 ⟨A1, c1, rfl, q1, q2, q3, ⟨x1, rfl⟩⟩; have HN1 := Lib.hid q3; clear q1 q2 q3) | (go_at_call 33; (with_reducible refine (rneg_g h2 _ (by first | exact hb.out | (have q := hb.out; exact q.plus (by repeat' (first | exact Plus.refl _ | refine Plus.alloc ?_ _ | refine Plus.plus ?_ _ | refine Plus.drew ?_ | refine Plus.drewN ?_ _))))).mono ?_); rintro e w1 ⟨A2, c2, rfl, q1, q2, q3, ⟨x2, rfl⟩⟩; have HN2 := Lib.hid q3; clear q1 q2 q3) | (go_at_call 59; (with_reducible refine (rsum_n _ _ pb A1 A2 us vs us.length c1 vs.length c2 ws R hR h3 _ (by have q := HN1.out; (try simp only [plus_drew] at q); first | exact q | exact q.plus (by repeat' (first | exact Plus.refl _ | refine Plus.alloc ?_ _ | refine Plus.plus ?_ _ | refine Plus.drew ?_ | refine Plus.drewN ?_ _))) (by have q := HN2.out; (try simp only [plus_drew] at q); first | exact q | exact q.plus (by repeat' (first | exact Plus.refl _ | refine Plus.alloc ?_ _ | refine Plus.plus ?_ _ | refine Plus.drew ?_ | refine Plus.drewN ?_ _))) rfl rfl hu.out hv.out).mono ?_); rintro e w1 ⟨A3, c3, rfl, r1, r2, r3, ⟨x3, rfl⟩⟩; have HR := Lib.hid r3; have HR1 := Lib.hid r1; clear r3 r1) | (go_at_call 58; (with_reducible refine (rfits_no _ A3 _ c3 _ hw.out).mono ?_); rintro e w1 ⟨rfl, ⟨x4, rfl⟩⟩))
  all_goals
    go_wp2_with fail
    go_returns
    exact ⟨rfl, (by repeat' (first | exact Plus.refl _ | refine Plus.alloc ?_ _ | refine Plus.plus ?_ _ | refine Plus.drew ?_ | refine Plus.drewN ?_ _))⟩
end Go.Proofs.Ythaokkmbghgopaa
