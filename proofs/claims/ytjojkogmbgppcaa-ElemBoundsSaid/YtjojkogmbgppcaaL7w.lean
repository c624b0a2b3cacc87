/- Bounds: the walk. -/
import Derived.WalkKit
import Derived.WalkSpells
import Derived.WalkLawsBesides
import Derived.Handy
import Derived.Deep.RegionHeld3
import Derived.Deep.DeepCutAuto
import Derived.Deep.QuietTactic
import Derived.BigQuiet
import Derived.Lib.Hide
import Derived.KernelRfl
import Derived.WalkMore
import Derived.Deep.LoopGhost
import Derived.Test.YtjojkogmbgppcaaC9
import Derived.Test.YtjojkogmbgppcaaR1
import Derived.Test.YtjojkogmbgppcaaM1
namespace Go.Proofs.Ytjojkogmbgppcaa
open Go.RowKit


theorem bs_eq (n x y : Nat) (h : msk n x = msk n y) : bs n x = bs n y := by
  induction n with
  | zero => rfl
  | succ n ih =>
    unfold msk at h ih
    rw [Nat.mul_add 8, Nat.pow_add, Nat.mod_mul, Nat.mod_mul] at h
    have h1 : x % 2 ^ (8 * n) < 2 ^ (8 * n) := Nat.mod_lt _ (Nat.two_pow_pos _)
    have h2 : y % 2 ^ (8 * n) < 2 ^ (8 * n) := Nat.mod_lt _ (Nat.two_pow_pos _)
    have h3 : x % 2 ^ (8 * n) = y % 2 ^ (8 * n) := by
      have q := congrArg (· % 2 ^ (8 * n)) h
      simpa [Nat.add_mul_mod_self_left] using q
    have h4 : x / 2 ^ (8 * n) % 256 = y / 2 ^ (8 * n) % 256 := by
      rw [h3] at h
      exact Nat.eq_of_mul_eq_mul_left (Nat.two_pow_pos _) (Nat.add_left_cancel h)
    rw [bs_succ, bs_succ, ih h3, h4]
theorem bs_iff (n x y : Nat) : bs n x = bs n y ↔ msk n x = msk n y :=
  ⟨fun h => by rw [← wd_bs, ← wd_bs, h], bs_eq n x y⟩
set_option maxRecDepth 100000 in
set_option maxHeartbeats 8000000 in
theorem bounds_y (k : Int) (x y s : Nat) (xs ys : List Nat) (p q lo hi : Int) (bb : Bool) (w : World)
    (hk : (k = 1 ∧ s = 1 ∧ lo = -128 ∧ hi = 127) ∨ (k = 2 ∧ s = 1 ∧ lo = 0 ∧ hi = 255) ∨ (k = 3 ∧ s = 2 ∧ lo = -32768 ∧ hi = 32767) ∨ (k = 4 ∧ s = 2 ∧ lo = 0 ∧ hi = 65535) ∨ (k = 5 ∧ s = 4 ∧ lo = -2147483648 ∧ hi = 2147483647) ∨ (k = 6 ∧ s = 4 ∧ lo = 0 ∧ hi = 4294967295))
    (hs : Hid (SzN k s)) (hg : Hid (BgN k false)) (hp : Hid (TnN k x p)) (hq : Hid (TnN k y q)) (hx : Hid (BsN k x xs s)) (hy : Hid (BsN k y ys s)) (he : Hid (decide (xs = ys) = bb)) (hpq : (p == q) = bb) (h1 : lo ≤ p) (h2 : p ≤ hi) :
    Calls Try.prog 7 #[.int .i64 k, .int .u64 (x : Int), .int .u64 (y : Int)] w fun e w' => e = .returned (.bool true) ∧ Plus w w' := by
  rcases hk with ⟨rfl, rfl, rfl, rfl⟩ | ⟨rfl, rfl, rfl, rfl⟩ | ⟨rfl, rfl, rfl, rfl⟩ | ⟨rfl, rfl, rfl, rfl⟩ | ⟨rfl, rfl, rfl, rfl⟩ | ⟨rfl, rfl, rfl, rfl⟩
  all_goals
    go_enter Try.func7, Try.ntmps7
    go_wp2_with fail
    with_reducible refine (first_c _).mono ?_
    rintro e w1 ⟨rfl, ⟨y0, rfl⟩⟩
    go_wp2_with fail
    with_reducible refine (size_n hs _).mono ?_
    rintro e w1 ⟨rfl, ⟨y1, rfl⟩⟩
    go_wp2_with fail
    with_reducible refine (isBig_n hg _).mono ?_
    rintro e w1 ⟨rfl, ⟨y2, rfl⟩⟩
    go_wp2_with fail
    with_reducible refine (toNum_n hp _).mono ?_
    rintro e w1 ⟨rfl, ⟨y3, rfl⟩⟩
    go_wp2_with fail
    with_reducible refine (toNum_n hq _).mono ?_
    rintro e w1 ⟨rfl, ⟨y4, rfl⟩⟩
    go_wp2_with fail
    with_reducible refine (bytes_n hx _).mono ?_
    rintro e w1 ⟨A, c, rfl, hA, ⟨y5, rfl⟩⟩
    have HA := Lib.hid hA
    clear hA
    go_wp2_with fail
    with_reducible refine (bytes_n hy _).mono ?_
    rintro e w1 ⟨B, d, rfl, hB, ⟨y6, rfl⟩⟩
    have HB := Lib.hid hB
    clear hB
    go_wp2_with fail
    with_reducible refine (refBytes_n he _ (HA.out.plus (by repeat' (first | exact Plus.refl _ | refine Plus.alloc ?_ _ | refine Plus.plus ?_ _ | refine Plus.drew ?_ | refine Plus.drewN ?_ _))) HB.out).mono ?_
    rintro e w1 ⟨rfl, ⟨y7, rfl⟩⟩
    go_wp2_with fail
    with_reducible refine (first_c _).mono ?_
    rintro e w1 ⟨rfl, ⟨y8, rfl⟩⟩
    go_wp2_with fail
    go_ret
    exact ⟨rfl, (by repeat' (first | exact Plus.refl _ | refine Plus.alloc ?_ _ | refine Plus.plus ?_ _ | refine Plus.drew ?_ | refine Plus.drewN ?_ _))⟩

set_option maxRecDepth 100000 in
theorem bounds_0 (k : Int) (x y : Nat) (w : World) (hs : Hid (SzN k 0)) : Calls Try.prog 7 #[.int .i64 k, .int .u64 (x : Int), .int .u64 (y : Int)] w fun e w' => e = .returned (.bool true) ∧ Plus w w' := by
  go_enter Try.func7, Try.ntmps7
  go_wp2_with fail
  refine (first_c _).mono ?_
  rintro e w1 ⟨rfl, ⟨y0, rfl⟩⟩
  go_wp2_with fail
  refine (size_n hs _).mono ?_
  rintro e w1 ⟨rfl, ⟨y1, rfl⟩⟩
  go_wp2_with fail
  refine (first_c _).mono ?_
  rintro e w1 ⟨rfl, ⟨y8, rfl⟩⟩
  go_wp2_with fail
  go_ret
  exact ⟨rfl, (by repeat' (first | exact Plus.refl _ | refine Plus.alloc ?_ _ | refine Plus.plus ?_ _ | refine Plus.drew ?_ | refine Plus.drewN ?_ _))⟩

set_option maxRecDepth 100000 in
theorem bounds_b (k : Int) (x y : Nat) (w : World) (hs : Hid (SzN k 8)) (hg : Hid (BgN k true)) : Calls Try.prog 7 #[.int .i64 k, .int .u64 (x : Int), .int .u64 (y : Int)] w fun e w' => e = .returned (.bool true) ∧ Plus w w' := by
  go_enter Try.func7, Try.ntmps7
  go_wp2_with fail
  refine (first_c _).mono ?_
  rintro e w1 ⟨rfl, ⟨y0, rfl⟩⟩
  go_wp2_with fail
  refine (size_n hs _).mono ?_
  rintro e w1 ⟨rfl, ⟨y1, rfl⟩⟩
  go_wp2_with fail
  refine (isBig_n hg _).mono ?_
  rintro e w1 ⟨rfl, ⟨y2, rfl⟩⟩
  go_wp2_with fail
  refine (first_c _).mono ?_
  rintro e w1 ⟨rfl, ⟨y8, rfl⟩⟩
  go_wp2_with fail
  go_ret
  exact ⟨rfl, (by repeat' (first | exact Plus.refl _ | refine Plus.alloc ?_ _ | refine Plus.plus ?_ _ | refine Plus.drew ?_ | refine Plus.drewN ?_ _))⟩

theorem bounds_w (k : Int) (x y : Nat) (w : World) (hx : x < 18446744073709551616) (hy : y < 18446744073709551616) : Calls Try.prog 7 #[.int .i64 k, .int .u64 (x : Int), .int .u64 (y : Int)] w fun e w' => e = .returned (.bool true) ∧ Plus w w' := by
  by_cases h6 : 1 ≤ k ∧ k ≤ 6
  · have key : ∀ (s : Nat) (lo hi : Int), szK k = s → bigK k = false → lo ≤ toN k x → toN k x ≤ hi → (toN k x = toN k y ↔ msk s x = msk s y) →
        ((k = 1 ∧ s = 1 ∧ lo = -128 ∧ hi = 127) ∨ (k = 2 ∧ s = 1 ∧ lo = 0 ∧ hi = 255) ∨ (k = 3 ∧ s = 2 ∧ lo = -32768 ∧ hi = 32767) ∨ (k = 4 ∧ s = 2 ∧ lo = 0 ∧ hi = 65535) ∨ (k = 5 ∧ s = 4 ∧ lo = -2147483648 ∧ hi = 2147483647) ∨ (k = 6 ∧ s = 4 ∧ lo = 0 ∧ hi = 4294967295)) →
        Calls Try.prog 7 #[.int .i64 k, .int .u64 (x : Int), .int .u64 (y : Int)] w fun e w' => e = .returned (.bool true) ∧ Plus w w' := fun s lo hi e1 e2 e3 e4 e5 e6 => by
      subst e1
      refine bounds_y k x y (szK k) (bs (szK k) x) (bs (szK k) y) (toN k x) (toN k y) lo hi (decide (bs (szK k) x = bs (szK k) y)) w e6 (Lib.hid rfl) (Lib.hid e2) (Lib.hid rfl) (Lib.hid rfl) (Lib.hid ⟨rfl, bs_len _ _, hx⟩) (Lib.hid ⟨rfl, bs_len _ _, hy⟩) (Lib.hid rfl) ?_ e3 e4
      rw [Bool.eq_iff_iff]
      simp only [beq_iff_eq, decide_eq_true_eq]
      rw [bs_iff]
      exact e5
    have hk : k = 1 ∨ k = 2 ∨ k = 3 ∨ k = 4 ∨ k = 5 ∨ k = 6 := by omega
    rcases hk with rfl | rfl | rfl | rfl | rfl | rfl
    · refine key 1 (-128) 127 (by decide) (by decide) ?_ ?_ ?_ (by simp) <;> simp only [toN_1, msk_1] <;> omega
    · refine key 1 0 255 (by decide) (by decide) ?_ ?_ ?_ (by simp) <;> simp only [toN_2, msk_1] <;> omega
    · refine key 2 (-32768) 32767 (by decide) (by decide) ?_ ?_ ?_ (by simp) <;> simp only [toN_3, msk_2] <;> omega
    · refine key 2 0 65535 (by decide) (by decide) ?_ ?_ ?_ (by simp) <;> simp only [toN_4, msk_2] <;> omega
    · refine key 4 (-2147483648) 2147483647 (by decide) (by decide) ?_ ?_ ?_ (by simp) <;> simp only [toN_5, msk_4] <;> omega
    · refine key 4 0 4294967295 (by decide) (by decide) ?_ ?_ ?_ (by simp) <;> simp only [toN_6, msk_4] <;> omega
  · by_cases h8 : k = 7 ∨ k = 8
    · have hs : szK k = 8 := by rcases h8 with rfl | rfl <;> decide
      have hg : bigK k = true := by rcases h8 with rfl | rfl <;> decide
      exact bounds_b k x y w (Lib.hid hs) (Lib.hid hg)
    · have hs : szK k = 0 := if_neg (by omega)
      exact bounds_0 k x y w (Lib.hid hs)
end Go.Proofs.Ytjojkogmbgppcaa
