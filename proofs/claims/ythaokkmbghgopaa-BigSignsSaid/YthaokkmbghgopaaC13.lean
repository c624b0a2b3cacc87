/- Contracts: Cmp, Same, Neg. -/
import Derived.Test.YthaokkmbghgopaaC12
namespace Go.Proofs.Ythaokkmbghgopaa
open Go.RowKit


/-- An argument: its limbs lie in memory. -/
structure Arg (w : World) (A : Option Addr) (xs : List Nat) (n c : Nat) : Prop where
  lim : Lim w A xs
  len : n = xs.length
  few : xs.length ≤ 1048576
  cap : xs.length ≤ c
  max : c ≤ 9223372036854775807
theorem Arg.plus {w w' : World} {A : Option Addr} {xs : List Nat} {n c : Nat} (h : Arg w A xs n c) (hp : Plus w w') : Arg w' A xs n c := ⟨h.lim.plus hp, h.len, h.few, h.cap, h.max⟩
theorem Lim.box22 {w : World} {x y : More} {A : Option Addr} {xs : List Nat} {o1 o2 p1 p2 : Obj} (h : Lim (_root_.Go.Proofs.Ythaokkmbghgopaa.plus (_root_.Go.Proofs.Ythaokkmbghgopaa.plus ((w.alloc o1).alloc o2) x) y) A xs) (h1 : isBox o1) (h2 : isBox o2) : Lim (_root_.Go.Proofs.Ythaokkmbghgopaa.plus (_root_.Go.Proofs.Ythaokkmbghgopaa.plus ((w.alloc p1).alloc p2) x) y) A xs := by
  rw [plus_add] at h ⊢
  exact h.box2 h1 h2
theorem Lim.box33 {w : World} {x y : More} {A : Option Addr} {xs : List Nat} {o1 o2 o3 p1 p2 p3 : Obj} (h : Lim (_root_.Go.Proofs.Ythaokkmbghgopaa.plus (_root_.Go.Proofs.Ythaokkmbghgopaa.plus (((w.alloc o1).alloc o2).alloc o3) x) y) A xs) (h1 : isBox o1) (h2 : isBox o2) (h3 : isBox o3) : Lim (_root_.Go.Proofs.Ythaokkmbghgopaa.plus (_root_.Go.Proofs.Ythaokkmbghgopaa.plus (((w.alloc p1).alloc p2).alloc p3) x) y) A xs := by
  rw [plus_add] at h ⊢
  exact h.box3 h1 h2 h3
/-- What 'valid' returns, with names for the sign and the limbs. -/
theorem valid_h {neg pb : Bool} {A : Option Addr} {xs us : List Nat} {n c : Nat} (hid : Hid (decide (bigI neg xs < 0) = pb ∧ dig (bigI neg xs).natAbs = us)) (w : World) (h : Arg w A xs n c) :
    Calls Try.prog 51 #[.agg #[.bool neg, .slice A n c]] w fun e w' => ∃ (A1 : Option Addr) (c1 : Nat), e = .returned (.agg #[.bool pb, .slice A1 us.length c1]) ∧ us.length ≤ c1 ∧ c1 ≤ 9223372036854775807 ∧ Lim w' A1 us ∧ Plus w w' := by
  obtain ⟨rfl, rfl⟩ := hid.out
  exact valid_c neg A xs n c w h.lim h.len (by have := h.few; omega) h.cap h.max
/-- The order of two integers. -/
def cmpZ (a b : Int) : Int := if a < b then -1 else if a = b then 0 else 1

set_option maxRecDepth 100000 in
set_option maxHeartbeats 4000000 in
theorem cmp_h (an bn pb qb : Bool) (A C : Option Addr) (xs ys us vs : List Nat) (n c m d : Nat) (w : World) (ha : Hid (Arg w A xs n c)) (hb : Hid (Arg w C ys m d))
    (h1 : Hid (decide (bigI an xs < 0) = pb ∧ dig (bigI an xs).natAbs = us)) (h2 : Hid (decide (bigI bn ys < 0) = qb ∧ dig (bigI bn ys).natAbs = vs)) (hu : us.length ≤ 8) (hv : vs.length ≤ 8) :
    Calls Try.prog 28 #[.agg #[.bool an, .slice A n c], .agg #[.bool bn, .slice C m d]] w fun e w' => e = .returned (.int .i64 (if pb then (if qb then cmpI (val vs) (val us) else -1) else if qb then 1 else cmpI (val us) (val vs))) ∧ Plus w w' := by
  go_enter Try.func28, Try.ntmps28
  go_upto_region 1 with fail
  go_cut [] (fun wx => ∃ A1 c1 C1 d1 x1 x2, wx = _root_.Go.Proofs.Ythaokkmbghgopaa.plus (_root_.Go.Proofs.Ythaokkmbghgopaa.plus ((w.alloc (.cells #[.bool pb, .slice A1 us.length c1] 24)).alloc (.cells #[.bool qb, .slice C1 vs.length d1] 24)) x1) x2 ∧ Lim wx A1 us ∧ Lim wx C1 vs)
  case first =>
    go_region_with (first | (go_at_call_of 51 (Value.agg #[.bool an, .slice A n c]); (with_reducible refine (valid_h h1 _ (ha.out.plus (by repeat' (first | exact Plus.refl _ | refine Plus.alloc ?_ _ | refine Plus.plus ?_ _ | refine Plus.drew ?_ | refine Plus.drewN ?_ _)))).mono ?_); rintro e w1 ⟨A1, c1, rfl, _, _, q3, ⟨x1, rfl⟩⟩; have Q3 := Lib.hid q3; clear q3) | (go_at_call_of 51 (Value.agg #[.bool bn, .slice C m d]); (with_reducible refine (valid_h h2 _ (hb.out.plus (by repeat' (first | exact Plus.refl _ | refine Plus.alloc ?_ _ | refine Plus.plus ?_ _ | refine Plus.drew ?_ | refine Plus.drewN ?_ _)))).mono ?_); rintro e w1 ⟨C1, d1, rfl, _, _, r3, ⟨y1, rfl⟩⟩; have R3 := Lib.hid r3; clear r3))
    all_goals
      go_wp2_with fail
      go_meet
      have Q4 := Q3.out
      have R4 := R3.out
      simp only [plus_drew] at Q4 R4
      refine ⟨A1, c1, C1, d1, _, _, rfl, ?_, ?_⟩
      all_goals first | with_reducible exact (Q4.box2 (isBox.mk _ _ _ _ _) (isBox.mk _ _ _ _ _)).grow _ | with_reducible exact Q4.box22 (isBox.mk _ _ _ _ _) (isBox.mk _ _ _ _ _) | with_reducible exact (R4.box2 (isBox.mk _ _ _ _ _) (isBox.mk _ _ _ _ _)).grow _ | with_reducible exact R4.box22 (isBox.mk _ _ _ _ _) (isBox.mk _ _ _ _ _)
  case rest =>
    obtain ⟨A1, c1, C1, d1, x1, x2, rfl, hL1, hL2⟩ := hcut
    have L1 := Lib.hid hL1
    have L2 := Lib.hid hL2
    clear hL1 hL2
    cases pb <;> cases qb
    all_goals
      go_wp2_with (first | (go_at_call_of 54 (Value.slice A1 us.length c1); (with_reducible refine (compare_i _ _ _ _ _ _ _ _ L1.out L2.out rfl (by omega) (by omega)).mono ?_); rintro e w1 ⟨rfl, rfl⟩) | (go_at_call_of 54 (Value.slice C1 vs.length d1); (with_reducible refine (compare_i _ _ _ _ _ _ _ _ L2.out L1.out rfl (by omega) (by omega)).mono ?_); rintro e w1 ⟨rfl, rfl⟩))
      go_ret
      refine ⟨rfl, ?_⟩
      repeat' (first | exact Plus.refl _ | refine Plus.alloc ?_ _ | refine Plus.plus ?_ _ | refine Plus.drew ?_ | refine Plus.drewN ?_ _)
theorem cmpZ_lt {a b : Int} (h : a < b) : cmpZ a b = -1 := by unfold cmpZ; rw [if_pos h]
theorem cmpZ_gt {a b : Int} (h : b < a) : cmpZ a b = 1 := by unfold cmpZ; rw [if_neg (by omega), if_neg (by omega)]
theorem cmpZ_self (a : Int) : cmpZ a a = 0 := by unfold cmpZ; rw [if_neg (by omega), if_pos rfl]
theorem cmp_is (a b : Int) : (if decide (a < 0) then (if decide (b < 0) then cmpI b.natAbs a.natAbs else -1) else if decide (b < 0) then 1 else cmpI a.natAbs b.natAbs) = cmpZ a b := by
  by_cases h1 : a < 0 <;> by_cases h2 : b < 0
  · rw [if_pos (decide_eq_true h1), if_pos (decide_eq_true h2)]
    rcases Int.lt_trichotomy a b with h | h | h
    · rw [cmpI_lt (by omega), cmpZ_lt h]
    · rw [h, cmpI_eq rfl, cmpZ_self]
    · rw [cmpI_gt (by omega), cmpZ_gt h]
  · rw [if_pos (decide_eq_true h1), if_neg (by simpa using h2), cmpZ_lt (by omega)]
  · rw [if_neg (by simpa using h1), if_pos (decide_eq_true h2), cmpZ_gt (by omega)]
  · rw [if_neg (by simpa using h1), if_neg (by simpa using h2)]
    rcases Int.lt_trichotomy a b with h | h | h
    · rw [cmpI_lt (by omega), cmpZ_lt h]
    · rw [h, cmpI_eq rfl, cmpZ_self]
    · rw [cmpI_gt (by omega), cmpZ_gt h]
theorem cmp_c {an bn : Bool} {A C : Option Addr} {xs ys : List Nat} {n c m d : Nat} (w : World) (ha : Arg w A xs n c) (hb : Arg w C ys m d) :
    Calls Try.prog 28 #[.agg #[.bool an, .slice A n c], .agg #[.bool bn, .slice C m d]] w fun e w' => e = .returned (.int .i64 (cmpZ (bigI an xs) (bigI bn ys))) ∧ Plus w w' := by
  have h := cmp_h an bn _ _ A C xs ys _ _ n c m d w (Lib.hid ha) (Lib.hid hb) (Lib.hid ⟨rfl, rfl⟩) (Lib.hid ⟨rfl, rfl⟩) (dig_len_le (bigI_abs ha.lim.1)) (dig_len_le (bigI_abs hb.lim.1))
  simp only [val_dig] at h
  rw [cmp_is] at h
  exact h
theorem cmpZ_eq (a b : Int) : (cmpZ a b == 0) = decide (a = b) := by
  unfold cmpZ
  split
  · have : a ≠ b := by omega
    simp [this]
  · split
    · rename_i h; simp [h]
    · rename_i h; simp [h]

set_option maxHeartbeats 1000000 in
theorem same_c {an bn : Bool} {A C : Option Addr} {xs ys : List Nat} {n c m d : Nat} (w : World) (ha : Arg w A xs n c) (hb : Arg w C ys m d) :
    Calls Try.prog 30 #[.agg #[.bool an, .slice A n c], .agg #[.bool bn, .slice C m d]] w fun e w' => e = .returned (.bool (decide (bigI an xs = bigI bn ys))) ∧ Plus w w' := by
  have HZ := Lib.hid (cmpZ_eq (bigI an xs) (bigI bn ys))
  have HA := Lib.hid ha
  have HB := Lib.hid hb
  clear ha hb
  go_enter Try.func30, Try.ntmps30
  go_wp2_with (go_at_call 28; (with_reducible refine (cmp_c _ (HA.out.plus (by repeat' (first | exact Plus.refl _ | refine Plus.alloc ?_ _ | refine Plus.plus ?_ _ | refine Plus.drew ?_ | refine Plus.drewN ?_ _))) (HB.out.plus (by repeat' (first | exact Plus.refl _ | refine Plus.alloc ?_ _ | refine Plus.plus ?_ _ | refine Plus.drew ?_ | refine Plus.drewN ?_ _)))).mono ?_); rintro e w1 ⟨rfl, ⟨x1, rfl⟩⟩)
  go_ret
  refine ⟨by rw [← HZ.out]; rfl, ?_⟩
  repeat' (first | exact Plus.refl _ | refine Plus.alloc ?_ _ | refine Plus.plus ?_ _ | refine Plus.drew ?_ | refine Plus.drewN ?_ _)

set_option maxRecDepth 100000 in
set_option maxHeartbeats 4000000 in
theorem neg_h (an pb : Bool) (A : Option Addr) (xs us : List Nat) (n c : Nat) (w : World) (ha : Hid (Arg w A xs n c))
    (h1 : Hid (decide (bigI an xs < 0) = pb ∧ dig (bigI an xs).natAbs = us)) (hu : us.length ≤ 8) :
    Calls Try.prog 32 #[.agg #[.bool an, .slice A n c]] w (RetBig (sgn (!pb) (val us)) w) := by
  go_enter Try.func32, Try.ntmps32
  go_wp2_with (go_at_call 51; (with_reducible refine (valid_h h1 _ (ha.out.plus (by repeat' (first | exact Plus.refl _ | refine Plus.alloc ?_ _ | refine Plus.plus ?_ _ | refine Plus.drew ?_ | refine Plus.drewN ?_ _)))).mono ?_); rintro e w1 ⟨A1, c1, rfl, _, _, q3, ⟨x1, rfl⟩⟩; have Q3 := Lib.hid q3; clear q3)
  go_upto_region 2 with fail
  have Q4 := Lib.hid (Q3.out.box2 (p1 := .cells #[.bool pb, .slice A1 us.length c1] 24) (p2 := .cells #[.bool false, .slice none 0 0] 24) (isBox.mk _ _ _ _ _) (isBox.mk _ _ _ _ _))
  clear Q3
  go_region_with (first | (go_at_call 55; (with_reducible refine (clone_c _ us _ _ _ (by first | exact Q4.out | exact Q4.out.drew) rfl (by omega)).mono ?_); rintro e w1 ⟨v1, rfl, hown1, hB1⟩; obtain ⟨A2, c2, rfl, q1, q2, q3⟩ := lim_of_own Q4.out.1 hown1; obtain ⟨x2, rfl⟩ := Plus.of_below hB1; have Q5 := Lib.hid q3; clear hown1 hB1 q3) | (go_at_call 57; (with_reducible refine (made_c _ _ us _ _ _ (by first | exact Q5.out | (have q := Q5.out; simp only [plus_drew] at q; exact q)) rfl q1 q2).mono ?_); rintro e w1 ⟨A3, c3, rfl, r1, r2, r3, ⟨x3, rfl⟩⟩; have R1 := Lib.hid r1; have R3 := Lib.hid r3; clear r1 r3))
  all_goals
    go_wp2_with fail
    go_returns
    refine ⟨A3, c3, rfl, R1.out, r2, ?_, ?_⟩
    · exact R3.out.res3
    · repeat' (first | exact Plus.refl _ | refine Plus.alloc ?_ _ | refine Plus.plus ?_ _ | refine Plus.drew ?_ | refine Plus.drewN ?_ _)
theorem sgn_turn (a : Int) : sgn (!decide (a < 0)) a.natAbs = -a := by
  by_cases h : a < 0
  · simp [h, sgn]; omega
  · simp [h, sgn]; omega
theorem neg_c {an : Bool} {A : Option Addr} {xs : List Nat} {n c : Nat} (w : World) (ha : Arg w A xs n c) :
    Calls Try.prog 32 #[.agg #[.bool an, .slice A n c]] w (RetBig (-(bigI an xs)) w) := by
  have h := neg_h an _ A xs _ n c w (Lib.hid ha) (Lib.hid ⟨rfl, rfl⟩) (dig_len_le (bigI_abs ha.lim.1))
  rw [val_dig, sgn_turn] at h
  exact h
end Go.Proofs.Ythaokkmbghgopaa
