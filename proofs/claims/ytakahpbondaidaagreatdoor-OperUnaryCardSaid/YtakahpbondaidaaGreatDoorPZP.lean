/- renref2.Of. -/
import Derived.Test.YtakahpbondaidaaGreatDoorPZO
import Derived.Test.YtakahpbondaidaaGreatDoorPZH
namespace Go.Proofs.YtakahpbondaidaaGreatDoor.Bg
open Go.RowKit

set_option maxRecDepth 100000 in
set_option maxHeartbeats 4000000 in
theorem rOf_h (v a b : Nat) (n t zv : Int) (w : World) (hA : Hid (a < B)) (hB : Hid (b < B)) (hv4 : Hid (val [a, b] = v)) (h1 : IntKind.u64.wrap n = t) (hand : bits BinOp.and IntKind.u64 zv 4294967295 = (a : Int)) (hdiv : zv / 4294967296 = (b : Int)) (ha1 : (a : Int) ≤ 4294967295) (hb1 : (b : Int) ≤ 4294967295)
    (hc : (0 ≤ n ∧ t = zv ∧ Hid (n = (v : Int))) ∨ (n < 0 ∧ IntKind.u64.wrap (-t) = zv ∧ Hid (n = -(v : Int)))) : Calls Tryz.prog 53 #[.int .i64 n] w (RetBig n w) := by
  rcases hc with ⟨hn, rfl, HN⟩ | ⟨hn, h2, HN⟩
  · have HS : Hid (sgn (decide (n < 0)) v = n) := Lib.hid (by rw [show decide (n < 0) = false by simp; omega, sgn_fa, ← HN.out])
    go_enter Tryz.func53, Tryz.ntmps53
    go_wp2_with fail
    refine (rmade_c (decide (n < 0)) (some ⟨w.heap.size + 1, 0, none⟩) [a, b] 2 2 _ (Lim.lit2 (w.alloc (.cells #[.bool false, .slice none 0 0] 26)) (w.heap.size + 1) a b (by simp) hA.out hB.out) rfl (by simp) (by decide) (by simp)).mono ?_
    rintro e w1 ⟨A1, c1, rfl, r1, r2, r3, ⟨x1, rfl⟩⟩
    rw [hv4.out, HS.out] at r1 r3 ⊢
    have HR := Lib.hid r3
    have HR1 := Lib.hid r1
    clear r3 r1
    go_wp2_with fail
    go_returns
    refine ⟨A1, c1, by first | rfl | rw [decide_eq_true hn], HR1.out, r2, ?_, (by repeat' (first | exact Plus.refl _ | refine Plus.alloc ?_ _ | refine Plus.plus ?_ _ | refine Plus.drew ?_ | refine Plus.drewN ?_ _))⟩
    have r4 := HR.out
    simp only [alloc_two, plus_add] at r4 ⊢
    exact r4.res
  · have HS : Hid (sgn true v = n) := Lib.hid (by rw [sgn_tr, ← HN.out])
    go_enter Tryz.func53, Tryz.ntmps53
    go_wp2_with fail
    refine (rmade_c true (some ⟨w.heap.size + 1, 0, none⟩) [a, b] 2 2 _ (Lim.lit2 (w.alloc (.cells #[.bool false, .slice none 0 0] 26)) (w.heap.size + 1) a b (by simp) hA.out hB.out) rfl (by simp) (by decide) (by simp)).mono ?_
    rintro e w1 ⟨A1, c1, rfl, r1, r2, r3, ⟨x1, rfl⟩⟩
    rw [hv4.out, HS.out] at r1 r3 ⊢
    have HR := Lib.hid r3
    have HR1 := Lib.hid r1
    clear r3 r1
    go_wp2_with fail
    go_returns
    refine ⟨A1, c1, by first | rfl | rw [decide_eq_true hn], HR1.out, r2, ?_, (by repeat' (first | exact Plus.refl _ | refine Plus.alloc ?_ _ | refine Plus.plus ?_ _ | refine Plus.drew ?_ | refine Plus.drewN ?_ _))⟩
    have r4 := HR.out
    simp only [alloc_two, plus_add] at r4 ⊢
    exact r4.res

theorem rOf_c (n : Int) (h1 : -9223372036854775808 ≤ n) (h2 : n ≤ 9223372036854775807) (w : World) : Calls Tryz.prog 53 #[.int .i64 n] w (RetBig n w) := by
  have eB := B_eq
  have eBB := BB
  have hv : n.natAbs < 18446744073709551616 := by omega
  refine rOf_h n.natAbs (n.natAbs % B) (n.natAbs / B) n (n % 18446744073709551616) (n.natAbs : Nat) w (Lib.hid (Nat.mod_lt _ B_pos)) (Lib.hid (by rw [Nat.div_lt_iff_lt_mul B_pos, eBB]; exact hv)) (Lib.hid (by simp only [val, Nat.mul_zero, Nat.add_zero]; exact Nat.mod_add_div _ B)) (IntKind.wrap_u64 n) (low32 hv) (by rw [eB]; omega) (by have := Nat.mod_lt n.natAbs B_pos; omega) (by rw [eB]; omega) ?_
  by_cases h : 0 ≤ n
  · exact .inl ⟨h, by omega, Lib.hid (by omega)⟩
  · exact .inr ⟨by omega, by rw [IntKind.wrap_u64]; omega, Lib.hid (by omega)⟩
section
variable {pb : Bool} {us : List Nat} {r : Int}
theorem rOf_n {z : Int} (hr : Hid (OfN z r pb us)) (w : World) : Calls Tryz.prog 53 #[.int .i64 z] w fun e w' => ∃ (A1 : Option Addr) (c1 : Nat), e = .returned (.agg #[.bool pb, .slice A1 us.length c1]) ∧ Arg w' A1 us us.length c1 ∧ Plus w w' := by
  obtain ⟨h1, rfl, h2, h3⟩ := hr.out
  exact (rOf_c z h2 h3 w).mono fun _ _ h => h.n h1
end
end Go.Proofs.YtakahpbondaidaaGreatDoor.Bg
namespace Go.Proofs.YtakahpbondaidaaGreatDoor.Bg
open Go.RowKit

set_option maxRecDepth 100000 in
set_option maxHeartbeats 4000000 in
theorem rneg_h (an p : Bool) (A : Option Addr) (xs us : List Nat) (n c V : Nat) (R : Int) (w : World) (ha : Hid (Arg w A xs n c)) (h1 : Hid (decide (bigI an xs < 0) = p ∧ dig (bigI an xs).natAbs = us)) (hV : Hid (val us = V)) (HU : Hid (us.length ≤ 8)) (HN : Hid (sgn (!p) V = R)) :
    Calls Tryz.prog 89 #[.agg #[.bool an, .slice A n c]] w (RetBig R w) := by
  go_enter Tryz.func89, Tryz.ntmps89
  go_wp2_with fail
  refine (rgood_h h1 _ (ha.out.plus (by repeat' (first | exact Plus.refl _ | refine Plus.alloc ?_ _ | refine Plus.plus ?_ _ | refine Plus.drew ?_ | refine Plus.drewN ?_ _)))).mono ?_
  rintro e w1 ⟨A1, c1, rfl, q1, q2, q3, ⟨x1, rfl⟩⟩
  have Q1 := Lib.hid q1
  have Q3 := Lib.hid q3
  clear q1 q3
  go_wp2_with fail
  refine (rmade_c (!p) A1 us us.length c1 _ (Q3.out.plus (by repeat' (first | exact Plus.refl _ | refine Plus.alloc ?_ _ | refine Plus.plus ?_ _ | refine Plus.drew ?_ | refine Plus.drewN ?_ _))) rfl Q1.out q2 (by have := HU.out; omega)).mono ?_
  rintro e w1 ⟨A3, c3, rfl, r1, r2, r3, ⟨x2, rfl⟩⟩
  rw [hV.out, HN.out] at r1 r3 ⊢
  have HR := Lib.hid r3
  have HR1 := Lib.hid r1
  clear r3 r1
  go_wp2_with fail
  go_returns
  refine ⟨A3, c3, rfl, HR1.out, r2, ?_, (by repeat' (first | exact Plus.refl _ | refine Plus.alloc ?_ _ | refine Plus.plus ?_ _ | refine Plus.drew ?_ | refine Plus.drewN ?_ _))⟩
  have r4 := HR.out
  simp only [alloc_plus, plus_add] at r4 ⊢
  exact r4.res
theorem rneg_c {an : Bool} {A : Option Addr} {xs : List Nat} {n c : Nat} (w : World) (ha : Arg w A xs n c) : Calls Tryz.prog 89 #[.agg #[.bool an, .slice A n c]] w (RetBig (-(bigI an xs)) w) := by
  have hab : (bigI an xs).natAbs < B ^ 8 := bigI_abs ha.lim.1
  refine rneg_h an _ A xs _ n c (bigI an xs).natAbs _ w (Lib.hid ha) (Lib.hid ⟨rfl, rfl⟩) (Lib.hid (val_dig _)) (Lib.hid (dig_len_le hab)) (Lib.hid ?_)
  by_cases h : bigI an xs < 0
  · rw [decide_eq_true h]
    show sgn false _ = _
    rw [sgn_fa]
    omega
  · rw [decide_eq_false h]
    show sgn true _ = _
    rw [sgn_tr]
    omega
section
variable {pb : Bool} {us : List Nat} {r : Int}
theorem rneg_n {an : Bool} {A : Option Addr} {xs : List Nat} {n c : Nat} {a : Int} (hA : Hid (bigI an xs = a)) (hr : Hid (NegN a r pb us)) (w : World) (ha : Arg w A xs n c) : Calls Tryz.prog 89 #[.agg #[.bool an, .slice A n c]] w fun e w' => ∃ (A1 : Option Addr) (c1 : Nat), e = .returned (.agg #[.bool pb, .slice A1 us.length c1]) ∧ Arg w' A1 us us.length c1 ∧ Plus w w' := by
  obtain ⟨h1, rfl⟩ := hr.out
  have h := rneg_c (an := an) w ha
  rw [hA.out] at h
  exact h.mono fun _ _ h => h.n h1
end

end Go.Proofs.YtakahpbondaidaaGreatDoor.Bg
namespace Go.Proofs.YtakahpbondaidaaGreatDoor.Bg
open Go.RowKit

theorem rplus_n (A C : Option Addr) (xs ys us : List Nat) (n c m d : Nat) (hv : Hid (dig (val xs + val ys) = us)) (w : World) (h : Lim w A xs) (k : Lim w C ys) (hn : n = xs.length) (hm : m = ys.length) (hl : xs.length ≤ 1048576) (kl : ys.length ≤ 1048576) : Calls Tryz.prog 200 #[.slice A n c, .slice C m d] w fun e w' => ∃ (A1 : Option Addr) (c1 : Nat), e = .returned (.slice A1 us.length c1) ∧ us.length ≤ c1 ∧ c1 ≤ 9223372036854775807 ∧ Lim w' A1 us ∧ Plus w w' := by
  have h := rplus_c A C xs ys n c m d w h k hn hm hl kl
  obtain rfl := hv.out
  exact h.mono fun _ _ ⟨A1, c1, h1, h2, h3, h4, h5, _⟩ => ⟨A1, c1, h1, h2, h3, h4, h5⟩
theorem rminus_n (A C : Option Addr) (xs ys us : List Nat) (n c m d : Nat) (hv : Hid (dig (val xs - val ys) = us)) (hle : Hid (val ys ≤ val xs)) (w : World) (h : Lim w A xs) (k : Lim w C ys) (hn : n = xs.length) (hm : m = ys.length) (hl : xs.length ≤ 1048576) (_kl : ys.length ≤ 1048576) : Calls Tryz.prog 205 #[.slice A n c, .slice C m d] w fun e w' => ∃ (A1 : Option Addr) (c1 : Nat), e = .returned (.slice A1 us.length c1) ∧ us.length ≤ c1 ∧ c1 ≤ 9223372036854775807 ∧ Lim w' A1 us ∧ Plus w w' := by
  have h := rminus_c A C xs ys n c m d w h k hn hm hl hle.out
  obtain rfl := hv.out
  exact h.mono fun _ _ ⟨A1, c1, h1, h2, h3, h4, h5, _⟩ => ⟨A1, c1, h1, h2, h3, h4, h5⟩
theorem rcmp_n (A C : Option Addr) (xs ys : List Nat) (n c m d : Nat) {v : Int} (hv : Hid (cmpI (val xs) (val ys) = v)) (w : World) (h : Lim w A xs) (k : Lim w C ys) (hn : n = xs.length) (hm : m = ys.length) (hl : xs.length ≤ 1048576) (kl : ys.length ≤ 1048576) : Calls Tryz.prog 204 #[.slice A n c, .slice C m d] w fun e w' => e = .returned (.int .i64 v) ∧ w = w' := by
  have h := rcmp_c A C xs ys n c m d w h k hn hm hl kl
  rw [hv.out] at h
  exact h
theorem rmade_n (p pb : Bool) (A : Option Addr) (us vs : List Nat) (n c : Nat) (R : Int) (h1 : Hid (sgn p (val us) = R)) (h2 : Hid (decide (R < 0) = pb ∧ dig R.natAbs = vs)) (w : World) (h : Lim w A us) (hn : n = us.length) (hl : us.length ≤ c) (hc : c ≤ 9223372036854775807) (hs : us.length ≤ 2097152) :
    Calls Tryz.prog 112 #[.bool p, .slice A n c] w fun e w' => ∃ (A1 : Option Addr) (c1 : Nat), e = .returned (.agg #[.bool pb, .slice A1 vs.length c1]) ∧ vs.length ≤ c1 ∧ c1 ≤ 9223372036854775807 ∧ Lim w' A1 vs ∧ Plus w w' := by
  have h := rmade_c p A us n c w h hn hl hc hs
  rw [h1.out] at h
  obtain ⟨rfl, rfl⟩ := h2.out
  exact h

set_option maxRecDepth 100000 in
set_option maxHeartbeats 4000000 in
theorem rsum_et (pb : Bool) (A C : Option Addr) (xs ys us : List Nat) (n c m d : Nat) (vs : List Nat) (R : Int) (hv : Hid (dig (val xs + val ys) = us)) (h1 : Hid (sgn true (val us) = R)) (h2 : Hid (decide (R < 0) = pb ∧ dig R.natAbs = vs)) (hs : Hid (us.length ≤ 2097152)) (w : World) (ha : Hid (Lim w A xs)) (hb : Hid (Lim w C ys)) (hn : Hid (n = xs.length)) (hm : Hid (m = ys.length)) (hl : Hid (xs.length ≤ 1048576)) (kl : Hid (ys.length ≤ 1048576)) :
    Calls Tryz.prog 231 #[.agg #[.bool true, .slice A n c], .agg #[.bool true, .slice C m d]] w fun e w' => ∃ (A1 : Option Addr) (c1 : Nat), e = .returned (.agg #[.bool pb, .slice A1 vs.length c1]) ∧ vs.length ≤ c1 ∧ c1 ≤ 9223372036854775807 ∧ Lim w' A1 vs ∧ Plus w w' := by
  go_enter Tryz.func231, Tryz.ntmps231
  go_upto_region 2 with fail
  go_region_held3 (fun w' => w'.cell? ⟨w.heap.size, 0, none⟩ = some (.bool true) ∧ w'.cell? ⟨w.heap.size, 1, none⟩ = some (.slice A n c) ∧ w'.cell? ⟨w.heap.size + 1, 0, none⟩ = some (.bool true) ∧ w'.cell? ⟨w.heap.size + 1, 1, none⟩ = some (.slice C m d)) (refine ⟨?_, ?_, ?_, ?_⟩ <;> simp [go_sem]) (first | (go_at_call 200; (with_reducible refine (rplus_n A C xs ys us n c m d hv _ (by first | exact ha.out | (have q := ha.out; exact q.plus (by repeat' (first | exact Plus.refl _ | refine Plus.alloc ?_ _ | refine Plus.plus ?_ _ | refine Plus.drew ?_ | refine Plus.drewN ?_ _)))) (by first | exact hb.out | (have q := hb.out; exact q.plus (by repeat' (first | exact Plus.refl _ | refine Plus.alloc ?_ _ | refine Plus.plus ?_ _ | refine Plus.drew ?_ | refine Plus.drewN ?_ _)))) hn.out hm.out hl.out kl.out).mono ?_); rintro e w1 ⟨A1, c1, rfl, q1, q2, q3, ⟨x1, rfl⟩⟩; have HN := Lib.hid q3; have HL1 := Lib.hid q1; have HC1 := Lib.hid q2; clear q1 q2 q3) | (go_at_call 112; (with_reducible refine (rmade_n _ pb A1 us vs us.length c1 R h1 h2 _ (by first | exact HN.out | (have q := HN.out; simp only [plus_drew] at q; exact q)) rfl HL1.out HC1.out hs.out).mono ?_); rintro e w1 ⟨A2, c2, rfl, r1, r2, r3, ⟨x2, rfl⟩⟩; have HR := Lib.hid r3; have HR1 := Lib.hid r1; clear r3 r1))
  all_goals
    go_wp2_with fail
    go_returns
    refine ⟨A2, c2, rfl, HR1.out, r2, ?_, ?_⟩
    · have q2 := HR.out
      first | exact q2.res2 | (simp only [plus_drew] at q2; exact q2.res2)
    · repeat' (first | exact Plus.refl _ | refine Plus.alloc ?_ _ | refine Plus.plus ?_ _ | refine Plus.drew ?_ | refine Plus.drewN ?_ _)

set_option maxRecDepth 100000 in
set_option maxHeartbeats 4000000 in
theorem rsum_gt (pb : Bool) (A C : Option Addr) (xs ys us : List Nat) (n c m d : Nat) (vs : List Nat) (R : Int) (hv : Hid (dig (val xs - val ys) = us)) (hle : Hid (val ys ≤ val xs)) (v : Int) (hc : Hid (cmpI (val xs) (val ys) = v)) (v0 : 0 ≤ v) (h1 : Hid (sgn true (val us) = R)) (h2 : Hid (decide (R < 0) = pb ∧ dig R.natAbs = vs)) (hs : Hid (us.length ≤ 2097152)) (w : World) (ha : Hid (Lim w A xs)) (hb : Hid (Lim w C ys)) (hn : Hid (n = xs.length)) (hm : Hid (m = ys.length)) (hl : Hid (xs.length ≤ 1048576)) (kl : Hid (ys.length ≤ 1048576)) :
    Calls Tryz.prog 231 #[.agg #[.bool true, .slice A n c], .agg #[.bool false, .slice C m d]] w fun e w' => ∃ (A1 : Option Addr) (c1 : Nat), e = .returned (.agg #[.bool pb, .slice A1 vs.length c1]) ∧ vs.length ≤ c1 ∧ c1 ≤ 9223372036854775807 ∧ Lim w' A1 vs ∧ Plus w w' := by
  go_enter Tryz.func231, Tryz.ntmps231
  go_wp2_with fail
  refine (rcmp_n A C xs ys n c m d hc _ (by first | exact ha.out | (have q := ha.out; exact q.plus (by repeat' (first | exact Plus.refl _ | refine Plus.alloc ?_ _ | refine Plus.plus ?_ _ | refine Plus.drew ?_ | refine Plus.drewN ?_ _)))) (by first | exact hb.out | (have q := hb.out; exact q.plus (by repeat' (first | exact Plus.refl _ | refine Plus.alloc ?_ _ | refine Plus.plus ?_ _ | refine Plus.drew ?_ | refine Plus.drewN ?_ _)))) hn.out hm.out hl.out kl.out).mono ?_
  rintro e w1 ⟨rfl, rfl⟩
  go_upto_region 4 with fail
  go_region_held3 (fun w' => w'.cell? ⟨w.heap.size, 0, none⟩ = some (.bool true) ∧ w'.cell? ⟨w.heap.size, 1, none⟩ = some (.slice A n c) ∧ w'.cell? ⟨w.heap.size + 1, 0, none⟩ = some (.bool false) ∧ w'.cell? ⟨w.heap.size + 1, 1, none⟩ = some (.slice C m d)) (refine ⟨?_, ?_, ?_, ?_⟩ <;> simp [go_sem]) (first | (go_at_call 205; (with_reducible refine (rminus_n A C xs ys us n c m d hv hle _ (by first | exact ha.out | (have q := ha.out; exact q.plus (by repeat' (first | exact Plus.refl _ | refine Plus.alloc ?_ _ | refine Plus.plus ?_ _ | refine Plus.drew ?_ | refine Plus.drewN ?_ _)))) (by first | exact hb.out | (have q := hb.out; exact q.plus (by repeat' (first | exact Plus.refl _ | refine Plus.alloc ?_ _ | refine Plus.plus ?_ _ | refine Plus.drew ?_ | refine Plus.drewN ?_ _)))) hn.out hm.out hl.out kl.out).mono ?_); rintro e w1 ⟨A1, c1, rfl, q1, q2, q3, ⟨x1, rfl⟩⟩; have HN := Lib.hid q3; have HL1 := Lib.hid q1; have HC1 := Lib.hid q2; clear q1 q2 q3) | (go_at_call 112; (with_reducible refine (rmade_n _ pb A1 us vs us.length c1 R h1 h2 _ (by first | exact HN.out | (have q := HN.out; simp only [plus_drew] at q; exact q)) rfl HL1.out HC1.out hs.out).mono ?_); rintro e w1 ⟨A2, c2, rfl, r1, r2, r3, ⟨x2, rfl⟩⟩; have HR := Lib.hid r3; have HR1 := Lib.hid r1; clear r3 r1))
  all_goals
    go_wp2_with fail
    go_returns
    refine ⟨A2, c2, rfl, HR1.out, r2, ?_, ?_⟩
    · have q2 := HR.out
      first | exact q2.res2 | (simp only [plus_drew] at q2; exact q2.res2)
    · repeat' (first | exact Plus.refl _ | refine Plus.alloc ?_ _ | refine Plus.plus ?_ _ | refine Plus.drew ?_ | refine Plus.drewN ?_ _)

set_option maxRecDepth 100000 in
set_option maxHeartbeats 4000000 in
theorem rsum_lt (pb : Bool) (A C : Option Addr) (xs ys us : List Nat) (n c m d : Nat) (vs : List Nat) (R : Int) (hv : Hid (dig (val ys - val xs) = us)) (hle : Hid (val xs ≤ val ys)) (hc : Hid (cmpI (val xs) (val ys) = -1)) (h1 : Hid (sgn false (val us) = R)) (h2 : Hid (decide (R < 0) = pb ∧ dig R.natAbs = vs)) (hs : Hid (us.length ≤ 2097152)) (w : World) (ha : Hid (Lim w A xs)) (hb : Hid (Lim w C ys)) (hn : Hid (n = xs.length)) (hm : Hid (m = ys.length)) (hl : Hid (xs.length ≤ 1048576)) (kl : Hid (ys.length ≤ 1048576)) :
    Calls Tryz.prog 231 #[.agg #[.bool true, .slice A n c], .agg #[.bool false, .slice C m d]] w fun e w' => ∃ (A1 : Option Addr) (c1 : Nat), e = .returned (.agg #[.bool pb, .slice A1 vs.length c1]) ∧ vs.length ≤ c1 ∧ c1 ≤ 9223372036854775807 ∧ Lim w' A1 vs ∧ Plus w w' := by
  go_enter Tryz.func231, Tryz.ntmps231
  go_wp2_with fail
  refine (rcmp_n A C xs ys n c m d hc _ (by first | exact ha.out | (have q := ha.out; exact q.plus (by repeat' (first | exact Plus.refl _ | refine Plus.alloc ?_ _ | refine Plus.plus ?_ _ | refine Plus.drew ?_ | refine Plus.drewN ?_ _)))) (by first | exact hb.out | (have q := hb.out; exact q.plus (by repeat' (first | exact Plus.refl _ | refine Plus.alloc ?_ _ | refine Plus.plus ?_ _ | refine Plus.drew ?_ | refine Plus.drewN ?_ _)))) hn.out hm.out hl.out kl.out).mono ?_
  rintro e w1 ⟨rfl, rfl⟩
  go_upto_region 5 with fail
  go_region_held3 (fun w' => w'.cell? ⟨w.heap.size, 0, none⟩ = some (.bool true) ∧ w'.cell? ⟨w.heap.size, 1, none⟩ = some (.slice A n c) ∧ w'.cell? ⟨w.heap.size + 1, 0, none⟩ = some (.bool false) ∧ w'.cell? ⟨w.heap.size + 1, 1, none⟩ = some (.slice C m d)) (refine ⟨?_, ?_, ?_, ?_⟩ <;> simp [go_sem]) (first | (go_at_call 205; (with_reducible refine (rminus_n C A ys xs us m d n c hv hle _ (by first | exact hb.out | (have q := hb.out; exact q.plus (by repeat' (first | exact Plus.refl _ | refine Plus.alloc ?_ _ | refine Plus.plus ?_ _ | refine Plus.drew ?_ | refine Plus.drewN ?_ _)))) (by first | exact ha.out | (have q := ha.out; exact q.plus (by repeat' (first | exact Plus.refl _ | refine Plus.alloc ?_ _ | refine Plus.plus ?_ _ | refine Plus.drew ?_ | refine Plus.drewN ?_ _)))) hm.out hn.out kl.out hl.out).mono ?_); rintro e w1 ⟨A1, c1, rfl, q1, q2, q3, ⟨x1, rfl⟩⟩; have HN := Lib.hid q3; have HL1 := Lib.hid q1; have HC1 := Lib.hid q2; clear q1 q2 q3) | (go_at_call 112; (with_reducible refine (rmade_n _ pb A1 us vs us.length c1 R h1 h2 _ (by first | exact HN.out | (have q := HN.out; simp only [plus_drew] at q; exact q)) rfl HL1.out HC1.out hs.out).mono ?_); rintro e w1 ⟨A2, c2, rfl, r1, r2, r3, ⟨x2, rfl⟩⟩; have HR := Lib.hid r3; have HR1 := Lib.hid r1; clear r3 r1))
  all_goals
    go_wp2_with fail
    go_returns
    refine ⟨A2, c2, rfl, HR1.out, r2, ?_, ?_⟩
    · have q2 := HR.out
      first | exact q2.res2 | (simp only [plus_drew] at q2; exact q2.res2)
    · repeat' (first | exact Plus.refl _ | refine Plus.alloc ?_ _ | refine Plus.plus ?_ _ | refine Plus.drew ?_ | refine Plus.drewN ?_ _)

set_option maxRecDepth 100000 in
set_option maxHeartbeats 4000000 in
theorem rsum_ef (pb : Bool) (A C : Option Addr) (xs ys us : List Nat) (n c m d : Nat) (vs : List Nat) (R : Int) (hv : Hid (dig (val xs + val ys) = us)) (h1 : Hid (sgn false (val us) = R)) (h2 : Hid (decide (R < 0) = pb ∧ dig R.natAbs = vs)) (hs : Hid (us.length ≤ 2097152)) (w : World) (ha : Hid (Lim w A xs)) (hb : Hid (Lim w C ys)) (hn : Hid (n = xs.length)) (hm : Hid (m = ys.length)) (hl : Hid (xs.length ≤ 1048576)) (kl : Hid (ys.length ≤ 1048576)) :
    Calls Tryz.prog 231 #[.agg #[.bool false, .slice A n c], .agg #[.bool false, .slice C m d]] w fun e w' => ∃ (A1 : Option Addr) (c1 : Nat), e = .returned (.agg #[.bool pb, .slice A1 vs.length c1]) ∧ vs.length ≤ c1 ∧ c1 ≤ 9223372036854775807 ∧ Lim w' A1 vs ∧ Plus w w' := by
  go_enter Tryz.func231, Tryz.ntmps231
  go_upto_region 2 with fail
  go_region_held3 (fun w' => w'.cell? ⟨w.heap.size, 0, none⟩ = some (.bool false) ∧ w'.cell? ⟨w.heap.size, 1, none⟩ = some (.slice A n c) ∧ w'.cell? ⟨w.heap.size + 1, 0, none⟩ = some (.bool false) ∧ w'.cell? ⟨w.heap.size + 1, 1, none⟩ = some (.slice C m d)) (refine ⟨?_, ?_, ?_, ?_⟩ <;> simp [go_sem]) (first | (go_at_call 200; (with_reducible refine (rplus_n A C xs ys us n c m d hv _ (by first | exact ha.out | (have q := ha.out; exact q.plus (by repeat' (first | exact Plus.refl _ | refine Plus.alloc ?_ _ | refine Plus.plus ?_ _ | refine Plus.drew ?_ | refine Plus.drewN ?_ _)))) (by first | exact hb.out | (have q := hb.out; exact q.plus (by repeat' (first | exact Plus.refl _ | refine Plus.alloc ?_ _ | refine Plus.plus ?_ _ | refine Plus.drew ?_ | refine Plus.drewN ?_ _)))) hn.out hm.out hl.out kl.out).mono ?_); rintro e w1 ⟨A1, c1, rfl, q1, q2, q3, ⟨x1, rfl⟩⟩; have HN := Lib.hid q3; have HL1 := Lib.hid q1; have HC1 := Lib.hid q2; clear q1 q2 q3) | (go_at_call 112; (with_reducible refine (rmade_n _ pb A1 us vs us.length c1 R h1 h2 _ (by first | exact HN.out | (have q := HN.out; simp only [plus_drew] at q; exact q)) rfl HL1.out HC1.out hs.out).mono ?_); rintro e w1 ⟨A2, c2, rfl, r1, r2, r3, ⟨x2, rfl⟩⟩; have HR := Lib.hid r3; have HR1 := Lib.hid r1; clear r3 r1))
  all_goals
    go_wp2_with fail
    go_returns
    refine ⟨A2, c2, rfl, HR1.out, r2, ?_, ?_⟩
    · have q2 := HR.out
      first | exact q2.res2 | (simp only [plus_drew] at q2; exact q2.res2)
    · repeat' (first | exact Plus.refl _ | refine Plus.alloc ?_ _ | refine Plus.plus ?_ _ | refine Plus.drew ?_ | refine Plus.drewN ?_ _)

set_option maxRecDepth 100000 in
set_option maxHeartbeats 4000000 in
theorem rsum_gf (pb : Bool) (A C : Option Addr) (xs ys us : List Nat) (n c m d : Nat) (vs : List Nat) (R : Int) (hv : Hid (dig (val xs - val ys) = us)) (hle : Hid (val ys ≤ val xs)) (v : Int) (hc : Hid (cmpI (val xs) (val ys) = v)) (v0 : 0 ≤ v) (h1 : Hid (sgn false (val us) = R)) (h2 : Hid (decide (R < 0) = pb ∧ dig R.natAbs = vs)) (hs : Hid (us.length ≤ 2097152)) (w : World) (ha : Hid (Lim w A xs)) (hb : Hid (Lim w C ys)) (hn : Hid (n = xs.length)) (hm : Hid (m = ys.length)) (hl : Hid (xs.length ≤ 1048576)) (kl : Hid (ys.length ≤ 1048576)) :
    Calls Tryz.prog 231 #[.agg #[.bool false, .slice A n c], .agg #[.bool true, .slice C m d]] w fun e w' => ∃ (A1 : Option Addr) (c1 : Nat), e = .returned (.agg #[.bool pb, .slice A1 vs.length c1]) ∧ vs.length ≤ c1 ∧ c1 ≤ 9223372036854775807 ∧ Lim w' A1 vs ∧ Plus w w' := by
  go_enter Tryz.func231, Tryz.ntmps231
  go_wp2_with fail
  refine (rcmp_n A C xs ys n c m d hc _ (by first | exact ha.out | (have q := ha.out; exact q.plus (by repeat' (first | exact Plus.refl _ | refine Plus.alloc ?_ _ | refine Plus.plus ?_ _ | refine Plus.drew ?_ | refine Plus.drewN ?_ _)))) (by first | exact hb.out | (have q := hb.out; exact q.plus (by repeat' (first | exact Plus.refl _ | refine Plus.alloc ?_ _ | refine Plus.plus ?_ _ | refine Plus.drew ?_ | refine Plus.drewN ?_ _)))) hn.out hm.out hl.out kl.out).mono ?_
  rintro e w1 ⟨rfl, rfl⟩
  go_upto_region 4 with fail
  go_region_held3 (fun w' => w'.cell? ⟨w.heap.size, 0, none⟩ = some (.bool false) ∧ w'.cell? ⟨w.heap.size, 1, none⟩ = some (.slice A n c) ∧ w'.cell? ⟨w.heap.size + 1, 0, none⟩ = some (.bool true) ∧ w'.cell? ⟨w.heap.size + 1, 1, none⟩ = some (.slice C m d)) (refine ⟨?_, ?_, ?_, ?_⟩ <;> simp [go_sem]) (first | (go_at_call 205; (with_reducible refine (rminus_n A C xs ys us n c m d hv hle _ (by first | exact ha.out | (have q := ha.out; exact q.plus (by repeat' (first | exact Plus.refl _ | refine Plus.alloc ?_ _ | refine Plus.plus ?_ _ | refine Plus.drew ?_ | refine Plus.drewN ?_ _)))) (by first | exact hb.out | (have q := hb.out; exact q.plus (by repeat' (first | exact Plus.refl _ | refine Plus.alloc ?_ _ | refine Plus.plus ?_ _ | refine Plus.drew ?_ | refine Plus.drewN ?_ _)))) hn.out hm.out hl.out kl.out).mono ?_); rintro e w1 ⟨A1, c1, rfl, q1, q2, q3, ⟨x1, rfl⟩⟩; have HN := Lib.hid q3; have HL1 := Lib.hid q1; have HC1 := Lib.hid q2; clear q1 q2 q3) | (go_at_call 112; (with_reducible refine (rmade_n _ pb A1 us vs us.length c1 R h1 h2 _ (by first | exact HN.out | (have q := HN.out; simp only [plus_drew] at q; exact q)) rfl HL1.out HC1.out hs.out).mono ?_); rintro e w1 ⟨A2, c2, rfl, r1, r2, r3, ⟨x2, rfl⟩⟩; have HR := Lib.hid r3; have HR1 := Lib.hid r1; clear r3 r1))
  all_goals
    go_wp2_with fail
    go_returns
    refine ⟨A2, c2, rfl, HR1.out, r2, ?_, ?_⟩
    · have q2 := HR.out
      first | exact q2.res2 | (simp only [plus_drew] at q2; exact q2.res2)
    · repeat' (first | exact Plus.refl _ | refine Plus.alloc ?_ _ | refine Plus.plus ?_ _ | refine Plus.drew ?_ | refine Plus.drewN ?_ _)

set_option maxRecDepth 100000 in
set_option maxHeartbeats 4000000 in
theorem rsum_lf (pb : Bool) (A C : Option Addr) (xs ys us : List Nat) (n c m d : Nat) (vs : List Nat) (R : Int) (hv : Hid (dig (val ys - val xs) = us)) (hle : Hid (val xs ≤ val ys)) (hc : Hid (cmpI (val xs) (val ys) = -1)) (h1 : Hid (sgn true (val us) = R)) (h2 : Hid (decide (R < 0) = pb ∧ dig R.natAbs = vs)) (hs : Hid (us.length ≤ 2097152)) (w : World) (ha : Hid (Lim w A xs)) (hb : Hid (Lim w C ys)) (hn : Hid (n = xs.length)) (hm : Hid (m = ys.length)) (hl : Hid (xs.length ≤ 1048576)) (kl : Hid (ys.length ≤ 1048576)) :
    Calls Tryz.prog 231 #[.agg #[.bool false, .slice A n c], .agg #[.bool true, .slice C m d]] w fun e w' => ∃ (A1 : Option Addr) (c1 : Nat), e = .returned (.agg #[.bool pb, .slice A1 vs.length c1]) ∧ vs.length ≤ c1 ∧ c1 ≤ 9223372036854775807 ∧ Lim w' A1 vs ∧ Plus w w' := by
  go_enter Tryz.func231, Tryz.ntmps231
  go_wp2_with fail
  refine (rcmp_n A C xs ys n c m d hc _ (by first | exact ha.out | (have q := ha.out; exact q.plus (by repeat' (first | exact Plus.refl _ | refine Plus.alloc ?_ _ | refine Plus.plus ?_ _ | refine Plus.drew ?_ | refine Plus.drewN ?_ _)))) (by first | exact hb.out | (have q := hb.out; exact q.plus (by repeat' (first | exact Plus.refl _ | refine Plus.alloc ?_ _ | refine Plus.plus ?_ _ | refine Plus.drew ?_ | refine Plus.drewN ?_ _)))) hn.out hm.out hl.out kl.out).mono ?_
  rintro e w1 ⟨rfl, rfl⟩
  go_upto_region 5 with fail
  go_region_held3 (fun w' => w'.cell? ⟨w.heap.size, 0, none⟩ = some (.bool false) ∧ w'.cell? ⟨w.heap.size, 1, none⟩ = some (.slice A n c) ∧ w'.cell? ⟨w.heap.size + 1, 0, none⟩ = some (.bool true) ∧ w'.cell? ⟨w.heap.size + 1, 1, none⟩ = some (.slice C m d)) (refine ⟨?_, ?_, ?_, ?_⟩ <;> simp [go_sem]) (first | (go_at_call 205; (with_reducible refine (rminus_n C A ys xs us m d n c hv hle _ (by first | exact hb.out | (have q := hb.out; exact q.plus (by repeat' (first | exact Plus.refl _ | refine Plus.alloc ?_ _ | refine Plus.plus ?_ _ | refine Plus.drew ?_ | refine Plus.drewN ?_ _)))) (by first | exact ha.out | (have q := ha.out; exact q.plus (by repeat' (first | exact Plus.refl _ | refine Plus.alloc ?_ _ | refine Plus.plus ?_ _ | refine Plus.drew ?_ | refine Plus.drewN ?_ _)))) hm.out hn.out kl.out hl.out).mono ?_); rintro e w1 ⟨A1, c1, rfl, q1, q2, q3, ⟨x1, rfl⟩⟩; have HN := Lib.hid q3; have HL1 := Lib.hid q1; have HC1 := Lib.hid q2; clear q1 q2 q3) | (go_at_call 112; (with_reducible refine (rmade_n _ pb A1 us vs us.length c1 R h1 h2 _ (by first | exact HN.out | (have q := HN.out; simp only [plus_drew] at q; exact q)) rfl HL1.out HC1.out hs.out).mono ?_); rintro e w1 ⟨A2, c2, rfl, r1, r2, r3, ⟨x2, rfl⟩⟩; have HR := Lib.hid r3; have HR1 := Lib.hid r1; clear r3 r1))
  all_goals
    go_wp2_with fail
    go_returns
    refine ⟨A2, c2, rfl, HR1.out, r2, ?_, ?_⟩
    · have q2 := HR.out
      first | exact q2.res2 | (simp only [plus_drew] at q2; exact q2.res2)
    · repeat' (first | exact Plus.refl _ | refine Plus.alloc ?_ _ | refine Plus.plus ?_ _ | refine Plus.drew ?_ | refine Plus.drewN ?_ _)

end Go.Proofs.YtakahpbondaidaaGreatDoor.Bg
