/- Contracts: Of, FromWord, AsUint. -/
import Derived.Test.YthaokkmbghgopaaC13
namespace Go.Proofs.Ythaokkmbghgopaa
open Go.RowKit


theorem split_i (v : Nat) (z : Int) (hz : z = v) (hv : v < B * B) (w : World) : Calls Try.prog 77 #[.int .u64 z] w (NewL 2 v w) := by
  subst hz
  exact split_c v hv w
/-- A number and an error. -/
def RetBigX (n er : Int) (w : World) (e : Ending) (w' : World) : Prop :=
  ∃ (A : Option Addr) (c : Nat), e = .returned (.tuple #[.agg #[.bool (decide (n < 0)), .slice A (dig n.natAbs).length c], .int .i64 er]) ∧ (dig n.natAbs).length ≤ c ∧ c ≤ 9223372036854775807 ∧ Lim w' A (dig n.natAbs) ∧ Plus w w'
theorem RetBigX.zero {er : Int} {w w' : World} (hp : Plus w w') : RetBigX 0 er w (.returned (.tuple #[.agg #[.bool false, .slice none 0 0], .int .i64 er])) w' := by
  refine ⟨none, 0, by rw [show (0 : Int).natAbs = 0 from rfl, dig_zero]; rfl, by rw [show (0 : Int).natAbs = 0 from rfl, dig_zero]; exact Nat.le_refl _, by omega, by rw [show (0 : Int).natAbs = 0 from rfl, dig_zero]; exact Lim.nil, hp⟩
theorem BB : B * B = 18446744073709551616 := rfl
theorem sgn_tr (m : Nat) : sgn true m = -(m : Int) := rfl
theorem sgn_fa (m : Nat) : sgn false m = (m : Int) := rfl

set_option maxRecDepth 100000 in
set_option maxHeartbeats 4000000 in
theorem of_c (n : Int) (h1 : -9223372036854775808 ≤ n) (h2 : n ≤ 9223372036854775807) (w : World) :
    Calls Try.prog 44 #[.int .i64 n] w (RetBig n w) := by
  by_cases h0 : n < 0
  all_goals
    go_enter Try.func44, Try.ntmps44
    go_wp2_with fail
    refine (split_i n.natAbs _ (by omega) (by rw [BB]; omega) _).mono ?_
    rintro e w1 ⟨g, os, rfl, _, q3, q4, q5, hB1⟩
    obtain ⟨x1, rfl⟩ := Plus.of_below hB1
    have Q3 := Lib.hid q3
    have Q4 := Lib.hid q4
    have Q5 := Lib.hid q5
    clear q3 q4 q5 hB1
    go_wp2_with fail
    refine (made_c _ _ os _ _ _ Q3.out.toLim rfl (Nat.le_refl _) (by have := Q5.out; omega)).mono ?_
    rintro e w3 ⟨A3, c3, rfl, r1, r2, r3, ⟨x5, rfl⟩⟩
    have HS : Hid (sgn (decide (n < 0)) (val os) = n) := Lib.hid (by rw [Q4.out]; by_cases h : n < 0 <;> simp [h, sgn] <;> omega)
    first | rw [← sgn_tr] at r1 | skip
    have R1 := Lib.hid r1
    have R3 := Lib.hid r3
    clear r1 r3
    go_wp2_with fail
    go_returns
    have hs := HS.out
    first | rw [decide_eq_true h0] at hs | rw [decide_eq_false (by omega : ¬ n < 0)] at hs
    have r1 := R1.out
    have r3 := R3.out
    rw [hs] at r1 r3 ⊢
    refine ⟨A3, c3, rfl, r1, r2, ?_, ?_⟩
    · exact r3.res2
    · repeat' (first | exact Plus.refl _ | refine Plus.alloc ?_ _ | refine Plus.plus ?_ _ | refine Plus.drew ?_ | refine Plus.drewN ?_ _)

set_option maxRecDepth 100000 in
set_option maxHeartbeats 4000000 in
theorem fromWord_c (v : Nat) (s : Bool) (hv : v < B * B) (w : World) :
    Calls Try.prog 42 #[.int .u64 v, .bool s] w (RetBig (if s = true ∧ 9223372036854775808 ≤ v then (v : Int) - 18446744073709551616 else v) w) := by
  have hb : (v : Int) ≤ 18446744073709551615 := by rw [BB] at hv; omega
  by_cases h0 : s = true ∧ 9223372036854775808 ≤ v
  · rw [if_pos h0]
    obtain ⟨rfl, h0⟩ := h0
    have h0' : (9223372036854775807 : Int) < (v : Int) := by omega
    go_enter Try.func42, Try.ntmps42
    go_wp2_with fail
    refine (split_i (18446744073709551616 - v) _ (by omega) (by rw [BB]; omega) _).mono ?_
    rintro e w1 ⟨g, os, rfl, _, q3, q4, q5, hB1⟩
    obtain ⟨x1, rfl⟩ := Plus.of_below hB1
    have Q3 := Lib.hid q3
    have Q4 := Lib.hid q4
    have Q5 := Lib.hid q5
    clear q3 q4 q5 hB1
    go_wp2_with fail
    refine (made_c _ _ os _ _ _ Q3.out.toLim rfl (Nat.le_refl _) (by have := Q5.out; omega)).mono ?_
    rintro e w3 ⟨A3, c3, rfl, r1, r2, r3, ⟨x5, rfl⟩⟩
    have R1 := Lib.hid r1
    have R3 := Lib.hid r3
    clear r1 r3
    go_wp2_with fail
    go_returns
    have hs : sgn true (val os) = (v : Int) - 18446744073709551616 := by rw [Q4.out]; first | (rw [sgn_tr]; omega) | exact sgn_fa _
    have r1 := R1.out
    have r3 := R3.out
    rw [hs] at r1 r3 ⊢
    refine ⟨A3, c3, rfl, r1, r2, ?_, ?_⟩
    · exact r3.res2
    · repeat' (first | exact Plus.refl _ | refine Plus.alloc ?_ _ | refine Plus.plus ?_ _ | refine Plus.drew ?_ | refine Plus.drewN ?_ _)
  · rw [if_neg h0]
    have h0' : s = false ∨ (v : Int) ≤ 9223372036854775807 := by
      by_cases hs : s = true
      · exact .inr (by have : ¬ 9223372036854775808 ≤ v := fun h => h0 ⟨hs, h⟩; omega)
      · exact .inl (by simpa using hs)
    rcases h0' with rfl | h0'
    · go_enter Try.func42, Try.ntmps42
      go_wp2_with fail
      refine (split_i v _ (by omega) (by rw [BB]; omega) _).mono ?_
      rintro e w1 ⟨g, os, rfl, _, q3, q4, q5, hB1⟩
      obtain ⟨x1, rfl⟩ := Plus.of_below hB1
      have Q3 := Lib.hid q3
      have Q4 := Lib.hid q4
      have Q5 := Lib.hid q5
      clear q3 q4 q5 hB1
      go_wp2_with fail
      refine (made_c _ _ os _ _ _ Q3.out.toLim rfl (Nat.le_refl _) (by have := Q5.out; omega)).mono ?_
      rintro e w3 ⟨A3, c3, rfl, r1, r2, r3, ⟨x5, rfl⟩⟩
      have R1 := Lib.hid r1
      have R3 := Lib.hid r3
      clear r1 r3
      go_wp2_with fail
      go_returns
      have hs : sgn false (val os) = (v : Int) := by rw [Q4.out]; first | (rw [sgn_tr]; omega) | exact sgn_fa _
      have r1 := R1.out
      have r3 := R3.out
      rw [hs] at r1 r3 ⊢
      refine ⟨A3, c3, rfl, r1, r2, ?_, ?_⟩
      · exact r3.res2
      · repeat' (first | exact Plus.refl _ | refine Plus.alloc ?_ _ | refine Plus.plus ?_ _ | refine Plus.drew ?_ | refine Plus.drewN ?_ _)
    · clear h0
      cases s
      · go_enter Try.func42, Try.ntmps42
        go_wp2_with fail
        refine (split_i v _ (by omega) (by rw [BB]; omega) _).mono ?_
        rintro e w1 ⟨g, os, rfl, _, q3, q4, q5, hB1⟩
        obtain ⟨x1, rfl⟩ := Plus.of_below hB1
        have Q3 := Lib.hid q3
        have Q4 := Lib.hid q4
        have Q5 := Lib.hid q5
        clear q3 q4 q5 hB1
        go_wp2_with fail
        refine (made_c _ _ os _ _ _ Q3.out.toLim rfl (Nat.le_refl _) (by have := Q5.out; omega)).mono ?_
        rintro e w3 ⟨A3, c3, rfl, r1, r2, r3, ⟨x5, rfl⟩⟩
        have R1 := Lib.hid r1
        have R3 := Lib.hid r3
        clear r1 r3
        go_wp2_with fail
        go_returns
        have hs : sgn false (val os) = (v : Int) := by rw [Q4.out]; first | (rw [sgn_tr]; omega) | exact sgn_fa _
        have r1 := R1.out
        have r3 := R3.out
        rw [hs] at r1 r3 ⊢
        refine ⟨A3, c3, rfl, r1, r2, ?_, ?_⟩
        · exact r3.res2
        · repeat' (first | exact Plus.refl _ | refine Plus.alloc ?_ _ | refine Plus.plus ?_ _ | refine Plus.drew ?_ | refine Plus.drewN ?_ _)
      · go_enter Try.func42, Try.ntmps42
        go_wp2_with fail
        refine (split_i v _ (by omega) (by rw [BB]; omega) _).mono ?_
        rintro e w1 ⟨g, os, rfl, _, q3, q4, q5, hB1⟩
        obtain ⟨x1, rfl⟩ := Plus.of_below hB1
        have Q3 := Lib.hid q3
        have Q4 := Lib.hid q4
        have Q5 := Lib.hid q5
        clear q3 q4 q5 hB1
        go_wp2_with fail
        refine (made_c _ _ os _ _ _ Q3.out.toLim rfl (Nat.le_refl _) (by have := Q5.out; omega)).mono ?_
        rintro e w3 ⟨A3, c3, rfl, r1, r2, r3, ⟨x5, rfl⟩⟩
        have R1 := Lib.hid r1
        have R3 := Lib.hid r3
        clear r1 r3
        go_wp2_with fail
        go_returns
        have hs : sgn false (val os) = (v : Int) := by rw [Q4.out]; first | (rw [sgn_tr]; omega) | exact sgn_fa _
        have r1 := R1.out
        have r3 := R3.out
        rw [hs] at r1 r3 ⊢
        refine ⟨A3, c3, rfl, r1, r2, ?_, ?_⟩
        · exact r3.res2
        · repeat' (first | exact Plus.refl _ | refine Plus.alloc ?_ _ | refine Plus.plus ?_ _ | refine Plus.drew ?_ | refine Plus.drewN ?_ _)

theorem emod_pow (a : Int) (k : Nat) : a % 2 ^ k = if a < 0 ∧ a.natAbs % 2 ^ k ≠ 0 then ((2 ^ k - a.natAbs % 2 ^ k : Nat) : Int) else ((a.natAbs % 2 ^ k : Nat) : Int) := by
  have hp : 0 < 2 ^ k := Nat.two_pow_pos k
  have e : (2 : Int) ^ k = ((2 ^ k : Nat) : Int) := by rw [Int.natCast_pow]; rfl
  rw [e]
  generalize 2 ^ k = p at hp ⊢
  have hm := Nat.mod_lt a.natAbs hp
  have hd := Nat.mod_add_div a.natAbs p
  generalize a.natAbs % p = r at hm hd ⊢
  generalize a.natAbs / p = q at hd
  have hpq : ((p * q : Nat) : Int) = (p : Int) * (q : Int) := Int.natCast_mul p q
  by_cases h0 : a < 0 ∧ r ≠ 0
  · rw [if_pos h0]
    have ea : a = ((p - r : Nat) : Int) + (p : Int) * (-(q : Int) - 1) := by
      rw [Int.mul_sub, Int.mul_neg, ← hpq]
      omega
    rw [ea, Int.add_mul_emod_self_left]
    exact Int.emod_eq_of_lt (Int.natCast_nonneg _) (by omega)
  · rw [if_neg h0]
    by_cases h1 : a < 0
    · have hr : r = 0 := by
        rcases Nat.eq_zero_or_pos r with h | h
        · exact h
        · exact absurd ⟨h1, by omega⟩ h0
      subst hr
      have ea : a = 0 + (p : Int) * (-(q : Int)) := by
        rw [Int.mul_neg, ← hpq]
        omega
      rw [ea, Int.add_mul_emod_self_left]
      rfl
    · have ea : a = (r : Int) + (p : Int) * (q : Int) := by
        rw [← hpq]
        omega
      rw [ea, Int.add_mul_emod_self_left]
      exact Int.emod_eq_of_lt (Int.natCast_nonneg _) (by omega)

theorem cut_i (z : Int) (k : Nat) (hz : z = k) (A : Option Addr) (xs : List Nat) (n c : Nat) (w : World) (h : Lim w A xs) (hn : n = xs.length) (hl : xs.length ≤ 1024) (hk : k ≤ 1024) :
    Calls Try.prog 68 #[.int .i64 z, .slice A n c] w (NewS xs.length (val xs % 2 ^ k) w) := by
  subst hz hn
  exact cut_c k A xs c w h hl hk
theorem below_i (z : Int) (k : Nat) (hz : z = k) (neg : Bool) (A : Option Addr) (xs : List Nat) (n c : Nat) (w : World) (h : Lim w A xs) (hn : n = xs.length) (hb : k ≤ 1024) (hle : val xs ≤ 2 ^ k) :
    Calls Try.prog 70 #[.int .i64 z, .bool neg, .slice A n c] w (RetBig (sgn neg (2 ^ k - val xs)) w) := by
  subst hz
  exact below_c k neg A xs n c w h hn hb hle
theorem ne_i {a : Nat} : ((a == 0) = true → a = 0) ∧ ((a == 0) = false → a ≠ 0) := ⟨fun h => by simpa using h, fun h => by simpa using h⟩

set_option maxRecDepth 100000 in
set_option maxHeartbeats 4000000 in
theorem asUint_h (an pb : Bool) (A : Option Addr) (xs us : List Nat) (z : Int) (k n c : Nat) (w : World) (ha : Hid (Arg w A xs n c)) (hz : Hid (z = k)) (z0 : 0 ≤ z) (z1 : z ≤ 256)
    (h1 : Hid (decide (bigI an xs < 0) = pb ∧ dig (bigI an xs).natAbs = us)) (hu : us.length ≤ 8) (R : Int)
    (hR : Hid (R = if pb = true ∧ val us % 2 ^ k ≠ 0 then ((2 ^ k - val us % 2 ^ k : Nat) : Int) else ((val us % 2 ^ k : Nat) : Int))) :
    Calls Try.prog 36 #[.int .i64 z, .agg #[.bool an, .slice A n c]] w (RetBigX R 0 w) := by
  have hk : k ≤ 256 := by have := hz.out; omega
  have HK := Lib.hid hk
  clear hk
  go_enter Try.func36, Try.ntmps36
  go_wp2_with (go_at_call 51; (with_reducible refine (valid_h h1 _ (ha.out.plus (by repeat' (first | exact Plus.refl _ | refine Plus.alloc ?_ _ | refine Plus.plus ?_ _ | refine Plus.drew ?_ | refine Plus.drewN ?_ _)))).mono ?_); rintro e w1 ⟨A1, c1, rfl, _, _, q3, ⟨x1, rfl⟩⟩; have Q3 := Lib.hid q3; clear q3)
  refine (cut_i z k hz.out _ us _ _ _ (Q3.out.box2 (isBox.mk _ _ _ _ _) (isBox.mk _ _ _ _ _)) rfl (by omega) (by have := HK.out; omega)).mono ?_
  rintro e w2 ⟨A2, c2, os, rfl, p1, p2, p3, p4, p5, hB⟩
  obtain ⟨x2, rfl⟩ := Plus.of_below hB
  have P3 := Lib.hid p3
  have P4 := Lib.hid p4
  have P5 := Lib.hid p5
  clear p3 p4 p5 hB
  obtain ⟨zb, hzb⟩ : ∃ b, (val os == 0) = b := ⟨_, rfl⟩
  have HZ := Lib.hid hzb
  clear hzb
  cases pb <;> cases zb
  all_goals
    go_wp2_with (go_at_call 69; (with_reducible refine (isZero_c _ os _ _ P3.out p1 p2).mono ?_); rintro e w3 ⟨rfl, rfl⟩; rw [HZ.out])
    first
      | refine (made_c _ _ os _ _ _ P3.out rfl p1 p2).mono ?_
      | refine (below_i z k hz.out _ _ os _ _ _ P3.out rfl (by have := HK.out; omega) (by rw [P4.out]; exact Nat.le_of_lt (Nat.mod_lt _ (Nat.two_pow_pos k)))).mono ?_
    rintro e w3 ⟨A3, c3, rfl, r1, r2, r3, ⟨x5, rfl⟩⟩
    have R1 := Lib.hid r1
    have R3 := Lib.hid r3
    clear r1 r3
    go_wp2_with fail
    go_returns
    have r1 := R1.out
    have r3 := R3.out
    have hz0 := HZ.out
    have p4 := P4.out
    have hr := hR.out
    first
      | (have hs : sgn false (val os) = R := by rw [hr, sgn_fa, p4]; rw [if_neg (fun hh => by first | (have h9 := ne_i.1 hz0; rw [p4] at h9; exact hh.2 h9) | (have h9 := hh.1; revert h9; decide) | (simp at hh))])
        rw [hs] at r1 r3 ⊢
      | (have hs : sgn false (2 ^ k - val os) = R := by rw [hr, sgn_fa, p4, if_pos ⟨by trivial, by have := ne_i.2 hz0; rw [p4] at this; exact this⟩])
        rw [hs] at r1 r3 ⊢
    refine ⟨A3, c3, rfl, r1, r2, ?_, ?_⟩
    · simp only [plus_add] at r3 ⊢
      exact r3.res
    · repeat' (first | exact Plus.refl _ | refine Plus.alloc ?_ _ | refine Plus.plus ?_ _ | refine Plus.drew ?_ | refine Plus.drewN ?_ _)

theorem asUint_c {an : Bool} {A : Option Addr} {xs : List Nat} {n c : Nat} (z : Int) (k : Nat) (hz : z = k) (hk : k ≤ 256) (w : World) (ha : Arg w A xs n c) :
    Calls Try.prog 36 #[.int .i64 z, .agg #[.bool an, .slice A n c]] w (RetBigX (bigI an xs % 2 ^ k) 0 w) := by
  refine asUint_h an _ A xs _ z k n c w (Lib.hid ha) (Lib.hid hz) (by omega) (by omega) (Lib.hid ⟨rfl, rfl⟩) (dig_len_le (bigI_abs ha.lim.1)) _ (Lib.hid ?_)
  rw [val_dig, emod_pow]
  simp only [decide_eq_true_eq]

set_option maxRecDepth 100000 in
set_option maxHeartbeats 4000000 in
theorem asUint_no (an : Bool) (A : Option Addr) (n c : Nat) (z : Int) (hz : z < 0 ∨ 256 < z) (w : World) :
    Calls Try.prog 36 #[.int .i64 z, .agg #[.bool an, .slice A n c]] w (RetBigX 0 1 w) := by
  rcases hz with hz | hz
  · go_enter Try.func36, Try.ntmps36
    go_wp2
    go_returns
    exact RetBigX.zero (by repeat' (first | exact Plus.refl _ | refine Plus.alloc ?_ _ | refine Plus.plus ?_ _ | refine Plus.drew ?_ | refine Plus.drewN ?_ _))
  · have hz0 : decide (z < 0) = false := by simp; omega
    go_enter Try.func36, Try.ntmps36
    go_wp2
    go_returns
    exact RetBigX.zero (by repeat' (first | exact Plus.refl _ | refine Plus.alloc ?_ _ | refine Plus.plus ?_ _ | refine Plus.drew ?_ | refine Plus.drewN ?_ _))
end Go.Proofs.Ythaokkmbghgopaa
