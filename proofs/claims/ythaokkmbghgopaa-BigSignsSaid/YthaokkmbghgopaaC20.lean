/- Contracts: AsInt, Word. -/
import Derived.IntWalk
import Derived.Test.YthaokkmbghgopaaC19
namespace Go.Proofs.Ythaokkmbghgopaa
open Go.RowKit


@[go_sem] theorem setCell_drewN' (w : World) (n : Nat) (a : Addr) (v : Value) : (w.drewN n).setCell a v = (w.setCell a v).drewN n := rfl
def asIntR (k : Nat) (a : Int) : Int := if k = 0 ∨ a % 2 ^ k < 2 ^ (k - 1) then a % 2 ^ k else a % 2 ^ k - 2 ^ k
/-- What 'AsUint' returns, with names for the limbs. -/
theorem asUint_v {an : Bool} {A : Option Addr} {xs us : List Nat} {n c : Nat} {z R : Int} {k : Nat} (hz : Hid (z = k)) (hk : Hid (k ≤ 256)) (hR : Hid (bigI an xs % 2 ^ k = R ∧ decide (R < 0) = false ∧ dig R.natAbs = us)) (w : World) (ha : Arg w A xs n c) :
    Calls Try.prog 36 #[.int .i64 z, .agg #[.bool an, .slice A n c]] w fun e w' => ∃ (A1 : Option Addr) (c1 : Nat), e = .returned (.tuple #[.agg #[.bool false, .slice A1 us.length c1], .int .i64 0]) ∧ us.length ≤ c1 ∧ c1 ≤ 9223372036854775807 ∧ Lim w' A1 us ∧ Plus w w' := by
  obtain ⟨rfl, h2, rfl⟩ := hR.out
  refine (asUint_c z k hz.out hk.out w ha).mono ?_
  rintro e w1 ⟨A1, c1, rfl, q1, q2, q3, q4⟩
  rw [h2]
  exact ⟨A1, c1, rfl, q1, q2, q3, q4⟩
theorem power_i (z : Int) (n : Nat) (hz : z = n) (hn : n ≤ 1024) (w : World) : Calls Try.prog 74 #[.int .i64 z] w (NewL (n / 32 + 1) (2 ^ n) w) := by
  subst hz
  exact power_c n hn w

set_option maxRecDepth 100000 in
set_option maxHeartbeats 4000000 in
theorem asInt_h (an : Bool) (A : Option Addr) (xs us : List Nat) (z R S : Int) (k n c : Nat) (w : World) (ha : Hid (Arg w A xs n c)) (hz : Hid (z = k)) (hk : Hid (k ≤ 256)) (z0 : 0 < z) (z1 : z ≤ 256)
    (hR : Hid (bigI an xs % 2 ^ k = R ∧ decide (R < 0) = false ∧ dig R.natAbs = us)) (hu : us.length ≤ 8) (hlo : Hid (val us < 2 ^ (k - 1) → (val us : Int) = S)) (hhi : Hid (2 ^ (k - 1) ≤ val us → (val us : Int) - 2 ^ k = S)) (hlt : Hid (val us < 2 ^ k)) :
    Calls Try.prog 38 #[.int .i64 z, .agg #[.bool an, .slice A n c]] w (RetBigX S 0 w) := by
  have zb : (z == 0) = false := by simp; omega
  go_enter Try.func38, Try.ntmps38
  go_upto_region 2 with (go_at_call 36; (with_reducible refine (asUint_v hz hk hR _ (ha.out.plus (by repeat' (first | exact Plus.refl _ | refine Plus.alloc ?_ _ | refine Plus.plus ?_ _ | refine Plus.drew ?_ | refine Plus.drewN ?_ _)))).mono ?_); rintro e w1 ⟨A1, c1, rfl, q1, q2, q3, ⟨x1, rfl⟩⟩; have Q3 := Lib.hid q3; clear q3)
  have Q4 := Lib.hid (Q3.out.box2 (p1 := .cells #[.bool false, .slice A1 us.length c1] 24) (p2 := .cells #[.bool false, .slice none 0 0] 24) (isBox.mk _ _ _ _ _) (isBox.mk _ _ _ _ _))
  clear Q3
  have HK1 : Hid (k - 1 ≤ 1024) := Lib.hid (by have := hk.out; omega)
  have HK2 : Hid ((k - 1) / 32 + 1 ≤ 1152921504606846976) := Lib.hid (by have := hk.out; omega)
  have HU8 : Hid (us.length ≤ 1152921504606846976) := Lib.hid (by omega)
  obtain ⟨y, hy⟩ : ∃ y : Int, z - 1 = y := ⟨_, rfl⟩
  have HY : Hid (y = ((k - 1 : Nat) : Int)) := Lib.hid (by have := hz.out; omega)
  have hw : IntKind.i64.wrap (z - 1) = y := by rw [IntWalk.i64_in _ (by omega), hy]
  clear hy
  go_region_held3 (fun w' => w'.cell? ⟨w.heap.size, 0, none⟩ = some (.bool false) ∧ w'.cell? ⟨w.heap.size, 1, none⟩ = some (.slice A1 us.length c1)) (refine ⟨?_, ?_⟩ <;> simp [go_sem]) (first | (go_at_call 74; (with_reducible refine (power_i _ (k - 1) HY.out HK1.out _).mono ?_); rintro e w2 ⟨g, os, rfl, g1, g2, g3, g4, hB⟩; obtain ⟨x2, rfl⟩ := Plus.of_below hB; have G2 := Lib.hid g2; have G3 := Lib.hid g3; have G4 := Lib.hid g4; clear g2 g3 g4 hB) | (go_at_call 54; (with_reducible refine (compare_i _ _ us os _ _ _ _ (by first | exact (Q4.out.grow x2) | exact Lim.drew (Q4.out.grow x2) | (have q := (Q4.out.grow x2); simp only [plus_drew] at q; exact q) | (have q := (Q4.out.grow x2); simp only [plus_drew, size_plus, World.size_alloc, Nat.add_assoc] at q ⊢; exact q) | (have q := (Q4.out.grow x2); simp only [plus_drew, size_plus, World.size_alloc, Nat.add_assoc] at q; exact q)) (by first | exact G2.out.toLim | exact Lim.drew G2.out.toLim | (have q := G2.out.toLim; simp only [plus_drew] at q; exact q) | (have q := G2.out.toLim; simp only [plus_drew, size_plus, World.size_alloc, Nat.add_assoc] at q ⊢; exact q) | (have q := G2.out.toLim; simp only [plus_drew, size_plus, World.size_alloc, Nat.add_assoc] at q; exact q)) rfl HU8.out (Nat.le_trans G4.out HK2.out)).mono ?_); rintro e w1 ⟨rfl, rfl⟩))
  clear hw
  all_goals
    rcases Nat.lt_or_ge (val us) (val os) with hlt2 | hge
    · have HE := Lib.hid (cmpI_lt hlt2)
      have HS : Hid ((val us : Int) = S) := Lib.hid (hlo.out (by rw [← G3.out]; exact hlt2))
      clear hlt2
      rw [HE.out]
      go_wp2_with fail
      go_returns
      have e : S = ((val us : Nat) : Int) := HS.out.symm
      subst e
      have e2 : us = dig (val us) := by rw [← hR.out.2.2, val_dig]
      refine ⟨A1, c1, ?_, ?_, q2, ?_, ?_⟩
      · rw [show ((val us : Int)).natAbs = val us from Int.natAbs_natCast _, ← e2]
        have : decide ((val us : Int) < 0) = false := by simp
        rw [this]
      · rw [show ((val us : Int)).natAbs = val us from Int.natAbs_natCast _, ← e2]; exact q1
      · rw [show ((val us : Int)).natAbs = val us from Int.natAbs_natCast _, ← e2]
        have q := (Q4.out.grow x2).box22 (p1 := .cells #[.bool false, .slice A1 us.length c1] 24) (p2 := .cells #[.bool false, .slice A1 us.length c1] 24) (isBox.mk _ _ _ _ _) (isBox.mk _ _ _ _ _)
        exact q
      · repeat' (first | exact Plus.refl _ | refine Plus.alloc ?_ _ | refine Plus.plus ?_ _ | refine Plus.drew ?_ | refine Plus.drewN ?_ _)
    · obtain ⟨v, hv, hv0⟩ := cmpI_ge hge
      have HE := Lib.hid hv
      have HS : Hid ((val us : Int) - 2 ^ k = S) := Lib.hid (hhi.out (by rw [← G3.out]; exact hge))
      have HL2 : Hid (val us ≤ 2 ^ k) := Lib.hid (Nat.le_of_lt hlt.out)
      clear hge hv
      have hvd : decide (v < 0) = false := by simpa using hv0
      rw [HE.out]
      go_wp2_with fail
      refine (below_i z k hz.out _ _ us _ _ _ (by have q := Q4.out.grow x2; first | exact q | exact q.drew) rfl (by have := hk.out; omega) HL2.out).mono ?_
      rintro e w3 ⟨A3, c3, rfl, r1, r2, r3, ⟨x5, rfl⟩⟩
      have hs : sgn true (2 ^ k - val us) = S := by
        rw [sgn_tr, ← HS.out]
        have h1 := HL2.out
        have h2 : ((2 ^ k : Nat) : Int) = (2 : Int) ^ k := by rw [Int.natCast_pow]; rfl
        rw [← h2]
        omega
      rw [hs] at r1 r3 ⊢
      have R1 := Lib.hid r1
      have R3 := Lib.hid r3
      clear r1 r3 hs
      go_wp2_with fail
      go_returns
      refine ⟨A3, c3, rfl, R1.out, r2, ?_, ?_⟩
      · have r3 := R3.out
        first | exact r3.res3 | (simp only [plus_drew, plus_add] at r3 ⊢; exact r3.res) | (simp only [plus_add] at r3 ⊢; exact r3.res)
      · repeat' (first | exact Plus.refl _ | refine Plus.alloc ?_ _ | refine Plus.plus ?_ _ | refine Plus.drew ?_ | refine Plus.drewN ?_ _)

theorem asInt_c {an : Bool} {A : Option Addr} {xs : List Nat} {n c : Nat} (z : Int) (k : Nat) (hz : z = k) (h1 : 1 ≤ k) (hk : k ≤ 256) (w : World) (ha : Arg w A xs n c) :
    Calls Try.prog 38 #[.int .i64 z, .agg #[.bool an, .slice A n c]] w (RetBigX (asIntR k (bigI an xs)) 0 w) := by
  have hp : (0 : Int) < 2 ^ k := by
    have : ((2 ^ k : Nat) : Int) = (2 : Int) ^ k := by rw [Int.natCast_pow]; rfl
    rw [← this]
    exact Int.ofNat_lt.2 (Nat.two_pow_pos k)
  have r0 := Int.emod_nonneg (bigI an xs) (Int.ne_of_gt hp)
  have r1 := Int.emod_lt_of_pos (bigI an xs) hp
  have hd : decide (bigI an xs % 2 ^ k < 0) = false := by simp; omega
  have ep : ((2 ^ k : Nat) : Int) = (2 : Int) ^ k := by rw [Int.natCast_pow]; rfl
  have ep1 : ((2 ^ (k - 1) : Nat) : Int) = (2 : Int) ^ (k - 1) := by rw [Int.natCast_pow]; rfl
  have hB : 2 ^ k ≤ B ^ 8 := by
    rw [pow_bits]
    exact Nat.pow_le_pow_right (by decide) (by omega)
  have hv : ((val (dig (bigI an xs % 2 ^ k).natAbs) : Nat) : Int) = bigI an xs % 2 ^ k := by rw [val_dig]; omega
  refine asInt_h an A xs _ z _ _ k n c w (Lib.hid ha) (Lib.hid hz) (Lib.hid hk) (by omega) (by omega) (Lib.hid ⟨rfl, hd, rfl⟩) (dig_len_le ?_) (Lib.hid ?_) (Lib.hid ?_) (Lib.hid ?_)
  · omega
  · intro h
    unfold asIntR
    rw [if_pos (.inr (by rw [← ep1]; omega)), hv]
  · intro h
    unfold asIntR
    rw [if_neg (by rw [← ep1]; omega), hv]
  · omega

set_option maxRecDepth 100000 in
set_option maxHeartbeats 4000000 in
theorem asInt_zero {an : Bool} {A : Option Addr} {xs : List Nat} {n c : Nat} (w : World) (ha : Arg w A xs n c) :
    Calls Try.prog 38 #[.int .i64 0, .agg #[.bool an, .slice A n c]] w (RetBigX 0 0 w) := by
  have HA := Lib.hid ha
  have HR : Hid (bigI an xs % 2 ^ 0 = 0 ∧ decide ((0 : Int) < 0) = false ∧ dig (0 : Int).natAbs = []) := Lib.hid ⟨by rw [Int.pow_zero, Int.emod_one], rfl, dig_zero⟩
  clear ha
  have HZ0 : Hid ((0 : Int) = ((0 : Nat) : Int)) := Lib.hid rfl
  have HK0 : Hid (0 ≤ 256) := Lib.hid (by decide)
  go_enter Try.func38, Try.ntmps38
  go_wp2_with (go_at_call 36; (with_reducible refine (asUint_v HZ0 HK0 HR _ (HA.out.plus (by repeat' (first | exact Plus.refl _ | refine Plus.alloc ?_ _ | refine Plus.plus ?_ _ | refine Plus.drew ?_ | refine Plus.drewN ?_ _)))).mono ?_); rintro e w1 ⟨A1, c1, rfl, q1, q2, q3, ⟨x1, rfl⟩⟩)
  go_quiet (fail)
  go_wp2
  go_returns
  refine ⟨A1, c1, by rw [show (0 : Int).natAbs = 0 from rfl, dig_zero]; rfl, by rw [show (0 : Int).natAbs = 0 from rfl, dig_zero]; exact q1, q2, by rw [show (0 : Int).natAbs = 0 from rfl, dig_zero]; exact Lim.nil, ?_⟩
  repeat' (first | exact Plus.refl _ | refine Plus.alloc ?_ _ | refine Plus.plus ?_ _ | refine Plus.drew ?_ | refine Plus.drewN ?_ _)

set_option maxRecDepth 100000 in
set_option maxHeartbeats 4000000 in
theorem asInt_no (an : Bool) (A : Option Addr) (n c : Nat) (z : Int) (hz : z < 0 ∨ 256 < z) (w : World) :
    Calls Try.prog 38 #[.int .i64 z, .agg #[.bool an, .slice A n c]] w (RetBigX 0 1 w) := by
  have HZ := Lib.hid hz
  clear hz
  go_enter Try.func38, Try.ntmps38
  go_wp2_with (go_at_call 36; (with_reducible refine (asUint_no an A n c z HZ.out _).mono ?_); rintro e w1 ⟨A1, c1, rfl, q1, q2, q3, ⟨x1, rfl⟩⟩)
  go_quiet (fail)
  go_wp2
  go_returns
  refine ⟨A1, c1, rfl, q1, q2, by rw [show (0 : Int).natAbs = 0 from rfl, dig_zero]; exact Lim.nil, ?_⟩
  repeat' (first | exact Plus.refl _ | refine Plus.alloc ?_ _ | refine Plus.plus ?_ _ | refine Plus.drew ?_ | refine Plus.drewN ?_ _)

def wordR (a : Int) : Nat := (a % 2 ^ 64).toNat
theorem or_word {x y : Nat} (hx : x < B) (hy : y < B) : bits BinOp.or IntKind.u64 ((x : Int) * 4294967296) (y : Int) = ((x * 4294967296 + y : Nat) : Int) := by
  have eB := B_eq
  have e : (x : Int) * 4294967296 = ((x * 4294967296 : Nat) : Int) := by omega
  rw [e, u64_or_nat _ _ (by omega) (by omega), or_add x y hy, B_eq, Nat.mul_comm]
theorem word_limbs {xs : List Nat} (hv : val xs < 2 ^ 64) : lim xs 1 * 4294967296 + lim xs 0 = val xs := by
  have h := val_high xs 2
  have h2 : low xs 2 = lim xs 0 + B * lim xs 1 := by rw [low_succ, low_succ, low_zero]; simp
  have hz : val (xs.drop 2) = 0 := by
    rcases Nat.eq_zero_or_pos (val (xs.drop 2)) with hz | hz
    · exact hz
    · have := Nat.le_mul_of_pos_right (B ^ 2) hz
      have : B ^ 2 = 2 ^ 64 := rfl
      omega
  rw [hz, h2, B_eq] at h
  omega

set_option maxRecDepth 100000 in
set_option maxHeartbeats 4000000 in
theorem word_h (an : Bool) (A : Option Addr) (xs us : List Nat) (R : Int) (n c : Nat) (w : World) (ha : Hid (Arg w A xs n c))
    (hR : Hid (bigI an xs % 2 ^ 64 = R ∧ decide (R < 0) = false ∧ dig R.natAbs = us)) (hv : Hid (val us < 2 ^ 64)) :
    Calls Try.prog 40 #[.agg #[.bool an, .slice A n c]] w fun e w' => e = .returned (.int .u64 (val us : Nat)) ∧ Plus w w' := by
  have HZ0 : Hid ((64 : Int) = ((64 : Nat) : Int)) := Lib.hid rfl
  have HK0 : Hid (64 ≤ 256) := Lib.hid (by decide)
  go_enter Try.func40, Try.ntmps40
  go_upto_region 2 with (go_at_call 36; (with_reducible refine (asUint_v HZ0 HK0 hR _ (ha.out.plus (by repeat' (first | exact Plus.refl _ | refine Plus.alloc ?_ _ | refine Plus.plus ?_ _ | refine Plus.drew ?_ | refine Plus.drewN ?_ _)))).mono ?_); rintro e w1 ⟨A1, c1, rfl, q1, q2, q3, ⟨x1, rfl⟩⟩; have Q3 := Lib.hid q3; clear q3)
  have hk := Q3.out.1
  obtain ⟨hor0, o1⟩ := And.intro (or_word (lim_lt hk 1) (lim_lt hk 0)) (word_limbs hv.out)
  have HOR := Lib.hid hor0
  have HW := Lib.hid o1
  clear hor0 o1
  have Q4 := Lib.hid (Q3.out.alloc (.cells #[.bool false, .slice A1 us.length c1] 24))
  have H0 : Hid ((0 : Int) = ((0 : Nat) : Int)) := Lib.hid rfl
  have H1 : Hid ((1 : Int) = ((1 : Nat) : Int)) := Lib.hid rfl
  go_quiet ((first | (go_at_call 75; with_reducible exact Calls.quiet_of_same ((limb_i A1 us us.length c1 0 0 _ (by first | exact Q4.out | exact Q4.out.drewN _) rfl H0.out).mono fun _ _ ⟨a, b⟩ => ⟨a, b.symm⟩)) | (go_at_call 75; with_reducible exact Calls.quiet_of_same ((limb_i A1 us us.length c1 1 1 _ (by first | exact Q4.out | exact Q4.out.drewN _) rfl H1.out).mono fun _ _ ⟨a, b⟩ => ⟨a, b.symm⟩))))
  go_wp2
  go_ret
  have eB := B_eq
  have l0 := lim_lt hk 0
  have l1 := lim_lt hk 1
  refine ⟨congrArg Ending.returned (congrArg (Value.int .u64) ?_), ?_⟩
  · rw [IntWalk.u64_in (lim us 1 : Nat) (by omega), IntWalk.u64_in (lim us 0 : Nat) (by omega), IntWalk.u64_in _ (by omega), HOR.out, HW.out]
  · repeat' (first | exact Plus.refl _ | refine Plus.alloc ?_ _ | refine Plus.plus ?_ _ | refine Plus.drew ?_ | refine Plus.drewN ?_ _)
theorem word_c {an : Bool} {A : Option Addr} {xs : List Nat} {n c : Nat} (w : World) (ha : Arg w A xs n c) :
    Calls Try.prog 40 #[.agg #[.bool an, .slice A n c]] w fun e w' => e = .returned (.int .u64 (wordR (bigI an xs) : Nat)) ∧ Plus w w' := by
  have hp : (0 : Int) < 2 ^ 64 := by decide
  have r0 := Int.emod_nonneg (bigI an xs) (Int.ne_of_gt hp)
  have r1 := Int.emod_lt_of_pos (bigI an xs) hp
  have hd : decide (bigI an xs % 2 ^ 64 < 0) = false := by simp; omega
  have hv : val (dig (bigI an xs % 2 ^ 64).natAbs) = wordR (bigI an xs) := by rw [val_dig]; unfold wordR; omega
  have h := word_h an A xs _ _ n c w (Lib.hid ha) (Lib.hid ⟨rfl, hd, rfl⟩) (Lib.hid (by rw [hv]; unfold wordR; omega))
  rw [hv] at h
  exact h
end Go.Proofs.Ythaokkmbghgopaa
