/- Contracts: AsInt, Word. -/
import Derived.IntWalk
import Derived.Test.YtjojkogmbgppcaaGC19
namespace Go.Proofs.Ytjojkogmbgppcaa.Bg
open Go.RowKit


@[go_sem] theorem setCell_drewN' (w : World) (n : Nat) (a : Addr) (v : Value) : (w.drewN n).setCell a v = (w.setCell a v).drewN n := rfl
def asIntR (k : Nat) (a : Int) : Int := if k = 0 ∨ a % 2 ^ k < 2 ^ (k - 1) then a % 2 ^ k else a % 2 ^ k - 2 ^ k
/-- What 'AsUint' returns, with names for the limbs. -/
theorem asUint_v {an : Bool} {A : Option Addr} {xs us : List Nat} {n c : Nat} {z R : Int} {k : Nat} (hz : Hid (z = k)) (hk : Hid (k ≤ 256)) (hR : Hid (bigI an xs % 2 ^ k = R ∧ decide (R < 0) = false ∧ dig R.natAbs = us)) (w : World) (ha : Arg w A xs n c) :
    Calls Try.prog 51 #[.int .i64 z, .agg #[.bool an, .slice A n c]] w fun e w' => ∃ (A1 : Option Addr) (c1 : Nat), e = .returned (.tuple #[.agg #[.bool false, .slice A1 us.length c1], .int .i64 0]) ∧ us.length ≤ c1 ∧ c1 ≤ 9223372036854775807 ∧ Lim w' A1 us ∧ Plus w w' := by
  obtain ⟨rfl, h2, rfl⟩ := hR.out
  refine (asUint_c z k hz.out hk.out w ha).mono ?_
  rintro e w1 ⟨A1, c1, rfl, q1, q2, q3, q4⟩
  rw [h2]
  exact ⟨A1, c1, rfl, q1, q2, q3, q4⟩
theorem power_i (z : Int) (n : Nat) (hz : z = n) (hn : n ≤ 1024) (w : World) : Calls Try.prog 73 #[.int .i64 z] w (NewL (n / 32 + 1) (2 ^ n) w) := by
  subst hz
  exact power_c n hn w

def wordR (a : Int) : Nat := (a % 2 ^ 64).toNat
theorem or_word {x y : Nat} (hx : x < B) (hy : y < B) : bits BinOp.or IntKind.u64 ((x : Int) * 4294967296) (y : Int) = ((x * 4294967296 + y : Nat) : Int) := by
  have eB := B_eq
  have e : (x : Int) * 4294967296 = ((x * 4294967296 : Nat) : Int) := by omega
  rw [e, u64_or_nat _ _ (by omega) (by omega), or_add x y hy, B_eq, Nat.mul_comm]
theorem word_limbs {xs : List Nat} (hv : val xs < 2 ^ 64) : lim xs 1 * 4294967296 + lim xs 0 = val xs := by
  have h := val_high xs 2
  have h2 : low xs 2 = lim xs 0 + B * lim xs 1 := by rw [low_succ, low_succ, low_zero]; simp
  have hz : val (xs.drop 2) = 0 := by
    rcases Nat.eq_zero_or_pos (val (xs.drop 2)) with hz | hz
    · exact hz
    · have := Nat.le_mul_of_pos_right (B ^ 2) hz
      have : B ^ 2 = 2 ^ 64 := rfl
      omega
  rw [hz, h2, B_eq] at h
  omega

set_option maxRecDepth 100000 in
set_option maxHeartbeats 4000000 in
theorem word_h (an : Bool) (A : Option Addr) (xs us : List Nat) (R : Int) (n c : Nat) (w : World) (ha : Hid (Arg w A xs n c))
    (hR : Hid (bigI an xs % 2 ^ 64 = R ∧ decide (R < 0) = false ∧ dig R.natAbs = us)) (hv : Hid (val us < 2 ^ 64)) :
    Calls Try.prog 43 #[.agg #[.bool an, .slice A n c]] w fun e w' => e = .returned (.int .u64 (val us : Nat)) ∧ Plus w w' := by
  have HZ0 : Hid ((64 : Int) = ((64 : Nat) : Int)) := Lib.hid rfl
  have HK0 : Hid (64 ≤ 256) := Lib.hid (by decide)
  go_enter Try.func43, Try.ntmps43
  go_upto_region 2 with (go_at_call 51; (with_reducible refine (asUint_v HZ0 HK0 hR _ (ha.out.plus (by repeat' (first | exact Plus.refl _ | refine Plus.alloc ?_ _ | refine Plus.plus ?_ _ | refine Plus.drew ?_ | refine Plus.drewN ?_ _)))).mono ?_); rintro e w1 ⟨A1, c1, rfl, q1, q2, q3, ⟨x1, rfl⟩⟩; have Q3 := Lib.hid q3; clear q3)
  have hk := Q3.out.1
  obtain ⟨hor0, o1⟩ := And.intro (or_word (lim_lt hk 1) (lim_lt hk 0)) (word_limbs hv.out)
  have HOR := Lib.hid hor0
  have HW := Lib.hid o1
  clear hor0 o1
  have Q4 := Lib.hid (Q3.out.alloc (.cells #[.bool false, .slice A1 us.length c1] 37))
  have H0 : Hid ((0 : Int) = ((0 : Nat) : Int)) := Lib.hid rfl
  have H1 : Hid ((1 : Int) = ((1 : Nat) : Int)) := Lib.hid rfl
  go_quiet ((first | (go_at_call 52; with_reducible exact Calls.quiet_of_same ((limb_i A1 us us.length c1 0 0 _ (by first | exact Q4.out | exact Q4.out.drewN _) rfl H0.out).mono fun _ _ ⟨a, b⟩ => ⟨a, b.symm⟩)) | (go_at_call 52; with_reducible exact Calls.quiet_of_same ((limb_i A1 us us.length c1 1 1 _ (by first | exact Q4.out | exact Q4.out.drewN _) rfl H1.out).mono fun _ _ ⟨a, b⟩ => ⟨a, b.symm⟩))))
  go_wp2
  go_ret
  have eB := B_eq
  have l0 := lim_lt hk 0
  have l1 := lim_lt hk 1
  refine ⟨congrArg Ending.returned (congrArg (Value.int .u64) ?_), ?_⟩
  · rw [IntWalk.u64_in (lim us 1 : Nat) (by omega), IntWalk.u64_in (lim us 0 : Nat) (by omega), IntWalk.u64_in _ (by omega), HOR.out, HW.out]
  · repeat' (first | exact Plus.refl _ | refine Plus.alloc ?_ _ | refine Plus.plus ?_ _ | refine Plus.drew ?_ | refine Plus.drewN ?_ _)
theorem word_c {an : Bool} {A : Option Addr} {xs : List Nat} {n c : Nat} (w : World) (ha : Arg w A xs n c) :
    Calls Try.prog 43 #[.agg #[.bool an, .slice A n c]] w fun e w' => e = .returned (.int .u64 (wordR (bigI an xs) : Nat)) ∧ Plus w w' := by
  have hp : (0 : Int) < 2 ^ 64 := by decide
  have r0 := Int.emod_nonneg (bigI an xs) (Int.ne_of_gt hp)
  have r1 := Int.emod_lt_of_pos (bigI an xs) hp
  have hd : decide (bigI an xs % 2 ^ 64 < 0) = false := by simp; omega
  have hv : val (dig (bigI an xs % 2 ^ 64).natAbs) = wordR (bigI an xs) := by rw [val_dig]; unfold wordR; omega
  have h := word_h an A xs _ _ n c w (Lib.hid ha) (Lib.hid ⟨rfl, hd, rfl⟩) (Lib.hid (by rw [hv]; unfold wordR; omega))
  rw [hv] at h
  exact h
end Go.Proofs.Ytjojkogmbgppcaa.Bg
