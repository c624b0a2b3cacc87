/- Words of numbers and of BigInts, and back. -/
import Derived.WalkKit
import Derived.WalkSpells
import Derived.WalkLawsBesides
import Derived.Handy
import Derived.Deep.RegionHeld3
import Derived.Deep.DeepCutAuto
import Derived.Deep.QuietTactic
import Derived.BigQuiet
import Derived.Lib.Hide
import Derived.KernelRfl
import Derived.WalkMore
import Derived.Deep.LoopGhost
import Derived.Test.YtjojkogmbgppcaaN1
import Derived.Test.YtjojkogmbgppcaaGC20
import Derived.Test.YtjojkogmbgppcaaM1
namespace Go.Proofs.Ytjojkogmbgppcaa
open Go.RowKit


/-- The word of a number. -/
def fnW (k kk n : Int) : Nat := if bigK k then 0 else msk (szK k) (wN kk n)
set_option maxRecDepth 100000 in
set_option maxHeartbeats 2000000 in
theorem fromNum_c (k kk n : Int) (w : World) : Calls Try.prog 23 #[.int .i64 k, .agg #[.int .i64 kk, .int .i64 n]] w fun e w' => e = .returned (.int .u64 ((fnW k kk n : Nat) : Int)) ∧ Plus w w' := by
  have hg := isBig_c k
  unfold fnW
  by_cases hb : bigK k = true
  · rw [hb] at hg
    rw [if_pos hb]
    go_enter Try.func23, Try.ntmps23
    go_wp2_with fail
    with_reducible refine (hg _).mono ?_
    rintro e w1 ⟨rfl, ⟨x1, rfl⟩⟩
    go_wp2_with fail
    go_ret
    exact ⟨rfl, (by repeat' (first | exact Plus.refl _ | refine Plus.alloc ?_ _ | refine Plus.plus ?_ _ | refine Plus.drew ?_ | refine Plus.drewN ?_ _))⟩
  · rw [if_neg hb]
    rw [show bigK k = false by simpa using hb] at hg
    have hu := uint32_c kk n
    obtain ⟨a, ha⟩ : ∃ a, wN kk n = a := ⟨_, rfl⟩
    have hl := wN_lt kk n
    rw [ha] at hu hl ⊢
    have hl' : (a : Int) ≤ 4294967295 := by omega
    clear ha
    have hc := fun w => cut_c k a w (by omega)
    go_enter Try.func23, Try.ntmps23
    go_wp2_with fail
    with_reducible refine (hg _).mono ?_
    rintro e w1 ⟨rfl, ⟨x1, rfl⟩⟩
    go_wp2_with fail
    with_reducible refine (hu _).mono ?_
    rintro e w1 ⟨rfl, ⟨x2, rfl⟩⟩
    go_wp2_with fail
    with_reducible refine (hc _).mono ?_
    rintro e w1 ⟨rfl, ⟨x3, rfl⟩⟩
    go_wp2_with fail
    go_ret
    exact ⟨rfl, (by repeat' (first | exact Plus.refl _ | refine Plus.alloc ?_ _ | refine Plus.plus ?_ _ | refine Plus.drew ?_ | refine Plus.drewN ?_ _))⟩
def FnN (k kk n : Int) (r : Nat) : Prop := fnW k kk n = r
theorem fromNum_n {k kk n : Int} {r : Nat} (h : Hid (FnN k kk n r)) (w : World) : Calls Try.prog 23 #[.int .i64 k, .agg #[.int .i64 kk, .int .i64 n]] w fun e w' => e = .returned (.int .u64 (r : Int)) ∧ Plus w w' := by
  obtain rfl := h.out
  exact fromNum_c k kk n w

/-- The BigInt of a word. -/
def tbN (k : Int) (x : Nat) : Int := if bigK k then (if k = 7 ∧ 9223372036854775808 ≤ x then (x : Int) - 18446744073709551616 else x) else 0
theorem fromWord_i (x : Nat) (s : Bool) (hx : x < 18446744073709551616) (p : Bool) (us : List Nat) (z : Int) (hz : z = if s = true ∧ 9223372036854775808 ≤ x then (x : Int) - 18446744073709551616 else x) (hn : Hid (decide (z < 0) = p ∧ Bg.dig z.natAbs = us)) (w : World) :
    Calls Try.prog 46 #[.int .u64 (x : Int), .bool s] w fun e w' => ∃ (A : Option Addr) (c : Nat), e = .returned (.agg #[.bool p, .slice A us.length c]) ∧ us.length ≤ c ∧ c ≤ 9223372036854775807 ∧ Bg.Lim w' A us ∧ Plus w w' := by
  obtain ⟨rfl, rfl⟩ := hn.out
  subst hz
  exact Bg.fromWord_c x s (by rw [Bg.BB]; exact hx) w
/-- What ToBig returns, with names for the sign and the limbs. -/
def TbN (k : Int) (x : Nat) (p : Bool) (us : List Nat) : Prop := decide (tbN k x < 0) = p ∧ Bg.dig (tbN k x).natAbs = us ∧ x < 18446744073709551616
set_option maxRecDepth 100000 in
set_option maxHeartbeats 2000000 in
theorem toBig_n {k : Int} {x : Nat} {p : Bool} {us : List Nat} (h : Hid (TbN k x p us)) (w : World) :
    Calls Try.prog 31 #[.int .i64 k, .int .u64 (x : Int)] w fun e w' => ∃ (A : Option Addr) (c : Nat), e = .returned (.agg #[.bool p, .slice A us.length c]) ∧ Bg.Arg w' A us us.length c ∧ Plus w w' := by
  have hg := isBig_c k
  have h3 := h.out.2.2
  by_cases hb : bigK k = true
  · obtain ⟨q1, q2, _⟩ := h.out
    have hlen : us.length ≤ 8 := by
      rw [← q2]
      refine Bg.dig_len_le ?_
      have hB : Bg.B ^ 8 = 115792089237316195423570985008687907853269984665640564039457584007913129639936 := by decide
      unfold tbN
      rw [if_pos hb, hB]
      split <;> omega
    have hw := fun (w : World) => fromWord_i x (k == 7) h3 p us (tbN k x) (by unfold tbN; rw [if_pos hb]; simp) (Lib.hid ⟨q1, q2⟩) w
    rw [hb] at hg
    clear q1 q2
    have H3 := Lib.hid h3
    clear h3
    go_enter Try.func31, Try.ntmps31
    go_wp2_with fail
    with_reducible refine (hg _).mono ?_
    rintro e w1 ⟨rfl, ⟨x1, rfl⟩⟩
    go_wp2_with fail
    with_reducible refine (hw _).mono ?_
    rintro e w1 ⟨A, c, rfl, a1, a2, a3, ⟨x2, rfl⟩⟩
    have HQ := Lib.hid a3
    clear a3
    go_wp2_with fail
    go_returns
    refine ⟨A, c, rfl, ⟨?_, rfl, by omega, a1, a2⟩, (by repeat' (first | exact Plus.refl _ | refine Plus.alloc ?_ _ | refine Plus.plus ?_ _ | refine Plus.drew ?_ | refine Plus.drewN ?_ _))⟩
    have q := HQ.out
    rw [Bg.plus_add] at q ⊢
    exact q.res
  · have hb' : bigK k = false := by simpa using hb
    have e0 : tbN k x = 0 := by unfold tbN; rw [if_neg hb]
    obtain ⟨q1, q2, _⟩ := h.out
    rw [e0] at q1 q2
    rw [show (0 : Int).natAbs = 0 from rfl, Bg.dig_zero] at q2
    rw [show decide ((0 : Int) < 0) = false from rfl] at q1
    subst q1 q2
    rw [hb'] at hg
    go_enter Try.func31, Try.ntmps31
    go_wp2_with fail
    with_reducible refine (hg _).mono ?_
    rintro e w1 ⟨rfl, ⟨x1, rfl⟩⟩
    go_wp2_with fail
    go_returns
    exact ⟨none, 0, rfl, ⟨Bg.Lim.nil, rfl, by decide, by decide, by decide⟩, (by repeat' (first | exact Plus.refl _ | refine Plus.alloc ?_ _ | refine Plus.plus ?_ _ | refine Plus.drew ?_ | refine Plus.drewN ?_ _))⟩

/-- The word of a BigInt. -/
def fbW (k : Int) (b : Bool) (xs : List Nat) : Nat := if bigK k then Bg.wordR (Bg.bigI b xs) else 0
theorem wordR_lt (z : Int) : Bg.wordR z < 18446744073709551616 := by
  unfold Bg.wordR
  have : z % 2 ^ 64 < 2 ^ 64 := Int.emod_lt_of_pos _ (by decide)
  omega
def FbN (k : Int) (b : Bool) (xs : List Nat) (r : Nat) : Prop := fbW k b xs = r
set_option maxRecDepth 100000 in
set_option maxHeartbeats 2000000 in
theorem fromBig_n {k : Int} {b : Bool} {A : Option Addr} {xs : List Nat} {n c r : Nat} (h : Hid (FbN k b xs r)) (w : World) (ha : Hid (Bg.Arg w A xs n c)) :
    Calls Try.prog 25 #[.int .i64 k, .agg #[.bool b, .slice A n c]] w fun e w' => e = .returned (.int .u64 (r : Int)) ∧ Plus w w' := by
  obtain rfl := h.out
  have hg := isBig_c k
  unfold fbW
  by_cases hb : bigK k = true
  · rw [hb] at hg
    rw [if_pos hb]
    have hw := fun (w1 : World) (h1 : Plus w w1) => Bg.word_c (an := b) w1 (ha.out.plus h1)
    obtain ⟨a, hx⟩ : ∃ a, Bg.wordR (Bg.bigI b xs) = a := ⟨_, rfl⟩
    rw [hx] at hw ⊢
    clear hx
    go_enter Try.func25, Try.ntmps25
    go_wp2_with fail
    with_reducible refine (hg _).mono ?_
    rintro e w1 ⟨rfl, ⟨x1, rfl⟩⟩
    go_wp2_with fail
    with_reducible refine (hw _ (by repeat' (first | exact Plus.refl _ | refine Plus.alloc ?_ _ | refine Plus.plus ?_ _ | refine Plus.drew ?_ | refine Plus.drewN ?_ _))).mono ?_
    rintro e w1 ⟨rfl, ⟨x2, rfl⟩⟩
    go_wp2_with fail
    go_ret
    exact ⟨rfl, (by repeat' (first | exact Plus.refl _ | refine Plus.alloc ?_ _ | refine Plus.plus ?_ _ | refine Plus.drew ?_ | refine Plus.drewN ?_ _))⟩
  · rw [if_neg hb]
    rw [show bigK k = false by simpa using hb] at hg
    go_enter Try.func25, Try.ntmps25
    go_wp2_with fail
    with_reducible refine (hg _).mono ?_
    rintro e w1 ⟨rfl, ⟨x1, rfl⟩⟩
    go_wp2_with fail
    go_ret
    exact ⟨rfl, (by repeat' (first | exact Plus.refl _ | refine Plus.alloc ?_ _ | refine Plus.plus ?_ _ | refine Plus.drew ?_ | refine Plus.drewN ?_ _))⟩
/-- There and back. -/
theorem fb_tb {k j : Int} {x : Nat} (hk : bigK k = true) (hj : bigK j = true) (hx : x < 18446744073709551616) : FbN k (decide (tbN j x < 0)) (Bg.dig (tbN j x).natAbs) x := by
  unfold FbN fbW
  have hB : Bg.B ^ 8 = 115792089237316195423570985008687907853269984665640564039457584007913129639936 := by decide
  have hz : tbN j x = x ∨ tbN j x = (x : Int) - 18446744073709551616 := by
    unfold tbN
    rw [if_pos hj]
    split
    · exact .inr rfl
    · exact .inl rfl
  rw [if_pos hk, Bg.bigI_dig (by rw [hB]; omega)]
  unfold Bg.wordR
  rcases hz with hz | hz <;> rw [hz] <;> omega
end Go.Proofs.Ytjojkogmbgppcaa
