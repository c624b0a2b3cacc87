/- There and back: the walk. -/
import Derived.WalkKit
import Derived.WalkSpells
import Derived.WalkLawsBesides
import Derived.Handy
import Derived.Deep.RegionHeld3
import Derived.Deep.DeepCutAuto
import Derived.Deep.QuietTactic
import Derived.BigQuiet
import Derived.Lib.Hide
import Derived.KernelRfl
import Derived.WalkMore
import Derived.Deep.LoopGhost
import Derived.Test.YtjojkogmbgppcaaC9
import Derived.Test.YtjojkogmbgppcaaR1
import Derived.Test.YtjojkogmbgppcaaC10
namespace Go.Proofs.Ytjojkogmbgppcaa
open Go.RowKit


theorem word_z {k : Int} {A : Option Addr} {xs : List Nat} {n c r : Nat} {ok : Bool} {z : Int} (hz : Hid ((r : Int) = z)) (h : Hid (WdN k xs r ok)) (w : World) (ha : Hid (Ar .u8 256 w A xs n c)) : Calls Try.prog 14 #[.int .i64 k, .slice A n c] w fun e w' => e = .returned (.tuple #[.int .u64 z, .bool ok]) ∧ Plus w w' := by
  rw [← hz.out]
  exact word_n h w ha
theorem change_z {k op : Int} {a b r : Nat} {ok : Bool} {z : Int} (hz : Hid ((r : Int) = z)) (h : Hid (ChN k op a b r ok)) (w : World) : Calls Try.prog 33 #[.int .i64 k, .int .i64 op, .int .u64 (a : Int), .int .u64 (b : Int)] w fun e w' => e = .returned (.tuple #[.int .u64 z, .bool ok]) ∧ Plus w w' := by
  rw [← hz.out]
  exact change_n h w
theorem fromNum_z {k kk n : Int} {r : Nat} {z : Int} (hz : Hid ((r : Int) = z)) (h : Hid (FnN k kk n r)) (w : World) : Calls Try.prog 23 #[.int .i64 k, .agg #[.int .i64 kk, .int .i64 n]] w fun e w' => e = .returned (.int .u64 z) ∧ Plus w w' := by
  rw [← hz.out]
  exact fromNum_n h w
set_option maxRecDepth 100000 in
set_option maxHeartbeats 8000000 in
theorem back_s (k : Int) (a b r t m s : Nat) (xs : List Nat) (n M z : Int) (w : World) (hz : Hid ((m : Int) = z)) (hk : (s = 1 ∧ M = 256) ∨ (s = 2 ∧ M = 65536) ∨ (s = 4 ∧ M = 4294967296)) (hs : Hid (SzN k s)) (hx : Hid (BsN k a xs s)) (hw : Hid (WdN k xs m true)) (h1 : Hid (ChN k 1 a b r true)) (h2 : Hid (ChN k 4 r b m true)) (h3 : Hid (ChN k 5 a b t true)) (h4 : Hid (ChN k 5 t b m true)) (hg : Hid (BgN k false)) (t1 : Hid (TnN k a n)) (t2 : Hid (FnN k 0 n m))
    (m0 : 0 ≤ z) (m1 : z < M) (m2 : z ≤ (a : Int)) (m3 : ((a : Int) - z) % M = 0) (m4 : (a : Int) ≤ 18446744073709551615) :
    Calls Try.prog 6 #[.int .i64 k, .int .u64 (a : Int), .int .u64 (b : Int)] w fun e w' => e = .returned (.bool true) ∧ Plus w w' := by
  rcases hk with ⟨rfl, rfl⟩ | ⟨rfl, rfl⟩ | ⟨rfl, rfl⟩
  · go_enter Try.func6, Try.ntmps6
    go_wp2_with fail
    with_reducible refine (first_c _).mono ?_
    rintro e w1 ⟨rfl, ⟨y0, rfl⟩⟩
    go_wp2_with fail
    with_reducible refine (size_n hs _).mono ?_
    rintro e w1 ⟨rfl, ⟨y1, rfl⟩⟩
    go_wp2_with fail
    with_reducible refine (bytes_n hx _).mono ?_
    rintro e w1 ⟨A, c, rfl, hA, ⟨y2, rfl⟩⟩
    have HA := Lib.hid hA
    clear hA
    go_wp2_with fail
    with_reducible refine (word_z hz hw _ HA).mono ?_
    rintro e w1 ⟨rfl, ⟨y3, rfl⟩⟩
    go_wp2_with fail
    with_reducible refine (isBig_n hg _).mono ?_
    rintro e w1 ⟨rfl, ⟨y4, rfl⟩⟩
    go_wp2_with fail
    with_reducible refine (toNum_n t1 _).mono ?_
    rintro e w1 ⟨rfl, ⟨y5, rfl⟩⟩
    go_wp2_with fail
    with_reducible refine (fromNum_z hz t2 _).mono ?_
    rintro e w1 ⟨rfl, ⟨y6, rfl⟩⟩
    go_wp2_with fail
    with_reducible refine (change_n h1 _).mono ?_
    rintro e w1 ⟨rfl, ⟨z1, rfl⟩⟩
    go_wp2_with fail
    with_reducible refine (change_z hz h2 _).mono ?_
    rintro e w1 ⟨rfl, ⟨z2, rfl⟩⟩
    go_wp2_with fail
    with_reducible refine (change_n h3 _).mono ?_
    rintro e w1 ⟨rfl, ⟨z3, rfl⟩⟩
    go_wp2_with fail
    with_reducible refine (change_z hz h4 _).mono ?_
    rintro e w1 ⟨rfl, ⟨z4, rfl⟩⟩
    go_wp2_with fail
    with_reducible refine (first_c _).mono ?_
    rintro e w1 ⟨rfl, ⟨z5, rfl⟩⟩
    go_wp2_with fail
    go_ret
    exact ⟨rfl, (by repeat' (first | exact Plus.refl _ | refine Plus.alloc ?_ _ | refine Plus.plus ?_ _ | refine Plus.drew ?_ | refine Plus.drewN ?_ _))⟩
  · go_enter Try.func6, Try.ntmps6
    go_wp2_with fail
    with_reducible refine (first_c _).mono ?_
    rintro e w1 ⟨rfl, ⟨y0, rfl⟩⟩
    go_wp2_with fail
    with_reducible refine (size_n hs _).mono ?_
    rintro e w1 ⟨rfl, ⟨y1, rfl⟩⟩
    go_wp2_with fail
    with_reducible refine (bytes_n hx _).mono ?_
    rintro e w1 ⟨A, c, rfl, hA, ⟨y2, rfl⟩⟩
    have HA := Lib.hid hA
    clear hA
    go_wp2_with fail
    with_reducible refine (word_z hz hw _ HA).mono ?_
    rintro e w1 ⟨rfl, ⟨y3, rfl⟩⟩
    go_wp2_with fail
    with_reducible refine (isBig_n hg _).mono ?_
    rintro e w1 ⟨rfl, ⟨y4, rfl⟩⟩
    go_wp2_with fail
    with_reducible refine (toNum_n t1 _).mono ?_
    rintro e w1 ⟨rfl, ⟨y5, rfl⟩⟩
    go_wp2_with fail
    with_reducible refine (fromNum_z hz t2 _).mono ?_
    rintro e w1 ⟨rfl, ⟨y6, rfl⟩⟩
    go_wp2_with fail
    with_reducible refine (change_n h1 _).mono ?_
    rintro e w1 ⟨rfl, ⟨z1, rfl⟩⟩
    go_wp2_with fail
    with_reducible refine (change_z hz h2 _).mono ?_
    rintro e w1 ⟨rfl, ⟨z2, rfl⟩⟩
    go_wp2_with fail
    with_reducible refine (change_n h3 _).mono ?_
    rintro e w1 ⟨rfl, ⟨z3, rfl⟩⟩
    go_wp2_with fail
    with_reducible refine (change_z hz h4 _).mono ?_
    rintro e w1 ⟨rfl, ⟨z4, rfl⟩⟩
    go_wp2_with fail
    with_reducible refine (first_c _).mono ?_
    rintro e w1 ⟨rfl, ⟨z5, rfl⟩⟩
    go_wp2_with fail
    go_ret
    exact ⟨rfl, (by repeat' (first | exact Plus.refl _ | refine Plus.alloc ?_ _ | refine Plus.plus ?_ _ | refine Plus.drew ?_ | refine Plus.drewN ?_ _))⟩
  · go_enter Try.func6, Try.ntmps6
    go_wp2_with fail
    with_reducible refine (first_c _).mono ?_
    rintro e w1 ⟨rfl, ⟨y0, rfl⟩⟩
    go_wp2_with fail
    with_reducible refine (size_n hs _).mono ?_
    rintro e w1 ⟨rfl, ⟨y1, rfl⟩⟩
    go_wp2_with fail
    with_reducible refine (bytes_n hx _).mono ?_
    rintro e w1 ⟨A, c, rfl, hA, ⟨y2, rfl⟩⟩
    have HA := Lib.hid hA
    clear hA
    go_wp2_with fail
    with_reducible refine (word_z hz hw _ HA).mono ?_
    rintro e w1 ⟨rfl, ⟨y3, rfl⟩⟩
    go_wp2_with fail
    with_reducible refine (isBig_n hg _).mono ?_
    rintro e w1 ⟨rfl, ⟨y4, rfl⟩⟩
    go_wp2_with fail
    with_reducible refine (toNum_n t1 _).mono ?_
    rintro e w1 ⟨rfl, ⟨y5, rfl⟩⟩
    go_wp2_with fail
    with_reducible refine (fromNum_z hz t2 _).mono ?_
    rintro e w1 ⟨rfl, ⟨y6, rfl⟩⟩
    go_wp2_with fail
    with_reducible refine (change_n h1 _).mono ?_
    rintro e w1 ⟨rfl, ⟨z1, rfl⟩⟩
    go_wp2_with fail
    with_reducible refine (change_z hz h2 _).mono ?_
    rintro e w1 ⟨rfl, ⟨z2, rfl⟩⟩
    go_wp2_with fail
    with_reducible refine (change_n h3 _).mono ?_
    rintro e w1 ⟨rfl, ⟨z3, rfl⟩⟩
    go_wp2_with fail
    with_reducible refine (change_z hz h4 _).mono ?_
    rintro e w1 ⟨rfl, ⟨z4, rfl⟩⟩
    go_wp2_with fail
    with_reducible refine (first_c _).mono ?_
    rintro e w1 ⟨rfl, ⟨z5, rfl⟩⟩
    go_wp2_with fail
    go_ret
    exact ⟨rfl, (by repeat' (first | exact Plus.refl _ | refine Plus.alloc ?_ _ | refine Plus.plus ?_ _ | refine Plus.drew ?_ | refine Plus.drewN ?_ _))⟩

set_option maxRecDepth 100000 in
set_option maxHeartbeats 8000000 in
theorem back_8 (k : Int) (a b r t m s : Nat) (xs us : List Nat) (p : Bool) (w : World) (hk : s = 8 ∧ m = a) (hs : Hid (SzN k s)) (hx : Hid (BsN k a xs s)) (hw : Hid (WdN k xs m true)) (h1 : Hid (ChN k 1 a b r true)) (h2 : Hid (ChN k 4 r b m true)) (h3 : Hid (ChN k 5 a b t true)) (h4 : Hid (ChN k 5 t b m true)) (hg : Hid (BgN k true)) (t1 : Hid (TbN k a p us)) (t2 : Hid (FbN k p us m)) :
    Calls Try.prog 6 #[.int .i64 k, .int .u64 (a : Int), .int .u64 (b : Int)] w fun e w' => e = .returned (.bool true) ∧ Plus w w' := by
  obtain ⟨rfl, rfl⟩ := hk
  go_enter Try.func6, Try.ntmps6
  go_wp2_with fail
  with_reducible refine (first_c _).mono ?_
  rintro e w1 ⟨rfl, ⟨y0, rfl⟩⟩
  go_wp2_with fail
  with_reducible refine (size_n hs _).mono ?_
  rintro e w1 ⟨rfl, ⟨y1, rfl⟩⟩
  go_wp2_with fail
  with_reducible refine (bytes_n hx _).mono ?_
  rintro e w1 ⟨A, c, rfl, hA, ⟨y2, rfl⟩⟩
  have HA := Lib.hid hA
  clear hA
  go_wp2_with fail
  with_reducible refine (word_n hw _ HA).mono ?_
  rintro e w1 ⟨rfl, ⟨y3, rfl⟩⟩
  go_wp2_with fail
  with_reducible refine (isBig_n hg _).mono ?_
  rintro e w1 ⟨rfl, ⟨y4, rfl⟩⟩
  go_wp2_with fail
  with_reducible refine (toBig_n t1 _).mono ?_
  rintro e w1 ⟨U, e1, rfl, hU, ⟨y5, rfl⟩⟩
  have HU := Lib.hid hU
  clear hU
  go_wp2_with fail
  with_reducible refine (fromBig_n t2 _ HU).mono ?_
  rintro e w1 ⟨rfl, ⟨y6, rfl⟩⟩
  go_wp2_with fail
  with_reducible refine (change_n h1 _).mono ?_
  rintro e w1 ⟨rfl, ⟨z1, rfl⟩⟩
  go_wp2_with fail
  with_reducible refine (change_n h2 _).mono ?_
  rintro e w1 ⟨rfl, ⟨z2, rfl⟩⟩
  go_wp2_with fail
  with_reducible refine (change_n h3 _).mono ?_
  rintro e w1 ⟨rfl, ⟨z3, rfl⟩⟩
  go_wp2_with fail
  with_reducible refine (change_n h4 _).mono ?_
  rintro e w1 ⟨rfl, ⟨z4, rfl⟩⟩
  go_wp2_with fail
  with_reducible refine (first_c _).mono ?_
  rintro e w1 ⟨rfl, ⟨z5, rfl⟩⟩
  go_wp2_with fail
  go_ret
  exact ⟨rfl, (by repeat' (first | exact Plus.refl _ | refine Plus.alloc ?_ _ | refine Plus.plus ?_ _ | refine Plus.drew ?_ | refine Plus.drewN ?_ _))⟩

set_option maxRecDepth 100000 in
theorem back_0 (k : Int) (a b : Nat) (xs : List Nat) (w : World) (hs : Hid (SzN k 0)) (hx : Hid (BsN k a xs 0)) : Calls Try.prog 6 #[.int .i64 k, .int .u64 (a : Int), .int .u64 (b : Int)] w fun e w' => e = .returned (.bool true) ∧ Plus w w' := by
  go_enter Try.func6, Try.ntmps6
  go_wp2_with fail
  with_reducible refine (first_c _).mono ?_
  rintro e w1 ⟨rfl, ⟨y0, rfl⟩⟩
  go_wp2_with fail
  with_reducible refine (size_n hs _).mono ?_
  rintro e w1 ⟨rfl, ⟨y1, rfl⟩⟩
  go_wp2_with fail
  with_reducible refine (first_c _).mono ?_
  rintro e w1 ⟨rfl, ⟨y2, rfl⟩⟩
  go_wp2_with fail
  with_reducible refine (bytes_n hx _).mono ?_
  rintro e w1 ⟨A, c, rfl, hA, ⟨y3, rfl⟩⟩
  have HA := Lib.hid hA
  clear hA
  go_wp2_with fail
  go_ret
  exact ⟨rfl, (by repeat' (first | exact Plus.refl _ | refine Plus.alloc ?_ _ | refine Plus.plus ?_ _ | refine Plus.drew ?_ | refine Plus.drewN ?_ _))⟩

theorem down_is {s a b : Nat} (hs : s = 0 ∨ s = 1 ∨ s = 2 ∨ s = 4 ∨ s = 8) (hb : b < 18446744073709551616) : msk s ((msk s ((a + b) % 18446744073709551616) + 18446744073709551616 - b) % 18446744073709551616) = msk s a := by
  rcases hs with rfl | rfl | rfl | rfl | rfl
  · simp only [msk_0]
  · simp only [msk_1]; omega
  · simp only [msk_2]; omega
  · simp only [msk_4]; omega
  · simp only [msk_8]; omega
theorem xor_is (s a b : Nat) : msk s (msk s (a ^^^ b) ^^^ b) = msk s a := by
  unfold msk
  rw [Nat.xor_mod_two_pow, Nat.mod_mod, Nat.xor_mod_two_pow, Nat.xor_assoc, Nat.xor_self, Nat.xor_zero]
theorem fn_tn {k : Int} {s a : Nat} (hk : 1 ≤ k) (hk6 : k ≤ 6) (hs : szK k = s) : fnW k 0 (toN k a) = msk s a := by
  have small : ∀ n : Int, -2147483648 ≤ n → n ≤ 4294967295 → wN 0 n = (n % 4294967296).toNat := fun n p q => by
    have hm : mayN 0 n = true := by
      rw [mayN_0]
      simp
      omega
    unfold wN vK vN
    rw [if_pos hm, if_pos hm, if_pos rfl]
  unfold fnW
  have h : k = 1 ∨ k = 2 ∨ k = 3 ∨ k = 4 ∨ k = 5 ∨ k = 6 := by omega
  rcases h with rfl | rfl | rfl | rfl | rfl | rfl
  · obtain rfl : s = 1 := by rw [← hs]; decide
    rw [if_neg (by decide), hs, toN_1, small _ (by omega) (by omega), msk_1, msk_1]
    omega
  · obtain rfl : s = 1 := by rw [← hs]; decide
    rw [if_neg (by decide), hs, toN_2, small _ (by omega) (by omega), msk_1, msk_1]
    omega
  · obtain rfl : s = 2 := by rw [← hs]; decide
    rw [if_neg (by decide), hs, toN_3, small _ (by omega) (by omega), msk_2, msk_2]
    omega
  · obtain rfl : s = 2 := by rw [← hs]; decide
    rw [if_neg (by decide), hs, toN_4, small _ (by omega) (by omega), msk_2, msk_2]
    omega
  · obtain rfl : s = 4 := by rw [← hs]; decide
    rw [if_neg (by decide), hs, toN_5, small _ (by omega) (by omega), msk_4, msk_4]
    omega
  · obtain rfl : s = 4 := by rw [← hs]; decide
    rw [if_neg (by decide), hs, toN_6, small _ (by omega) (by omega), msk_4, msk_4]
    omega
theorem back_w (k : Int) (a b : Nat) (w : World) (ha : a < 18446744073709551616) (hb : b < 18446744073709551616) : Calls Try.prog 6 #[.int .i64 k, .int .u64 (a : Int), .int .u64 (b : Int)] w fun e w' => e = .returned (.bool true) ∧ Plus w w' := by
  have hs := szK_cases k
  by_cases h0 : szK k = 0
  · exact back_0 k a b (bs 0 a) w (Lib.hid h0) (Lib.hid ⟨by rw [h0], rfl, ha⟩)
  · have hf : ∀ op, 1 ≤ op → op ≤ 6 → chB k op = true := fun op p q => by simp [chB, h0, p, q]
    have hy : ∀ op p q, 1 ≤ op → op ≤ 6 → chW k op p q = msk (szK k) (opW op p q) := fun op p q u v => chW_yes (hf op u v)
    have hw : wdB k (bs (szK k) a) = true := by simp [wdB, h0, bs_len]
    have l1 := msk_lt (x := (a + b) % 18446744073709551616) (szK_le k)
    have l2 := msk_lt (x := a ^^^ b) (szK_le k)
    have X : Hid (BsN k a (bs (szK k) a) (szK k)) := Lib.hid ⟨rfl, bs_len _ _, ha⟩
    have W : Hid (WdN k (bs (szK k) a) (msk (szK k) a) true) := Lib.hid ⟨by rw [wdW_yes hw, wd_bs], hw⟩
    have C1 : Hid (ChN k 1 a b (msk (szK k) ((a + b) % 18446744073709551616)) true) := Lib.hid ⟨by rw [hy _ _ _ (by decide) (by decide), opW_1], hf _ (by decide) (by decide), ha, hb⟩
    have C2 : Hid (ChN k 4 (msk (szK k) ((a + b) % 18446744073709551616)) b (msk (szK k) a) true) := Lib.hid ⟨by rw [hy _ _ _ (by decide) (by decide), opW_4]; exact down_is hs hb, hf _ (by decide) (by decide), l1, hb⟩
    have C3 : Hid (ChN k 5 a b (msk (szK k) (a ^^^ b)) true) := Lib.hid ⟨by rw [hy _ _ _ (by decide) (by decide), opW_5], hf _ (by decide) (by decide), ha, hb⟩
    have C4 : Hid (ChN k 5 (msk (szK k) (a ^^^ b)) b (msk (szK k) a) true) := Lib.hid ⟨by rw [hy _ _ _ (by decide) (by decide), opW_5]; exact xor_is _ _ _, hf _ (by decide) (by decide), l2, hb⟩
    have h8 : 1 ≤ k ∧ k ≤ 8 := by
      apply Decidable.byContradiction
      intro q
      exact h0 (if_neg q)
    by_cases h6 : k ≤ 6
    · have hg : bigK k = false := by
        unfold bigK
        simp
        omega
      have key : ∀ (s : Nat) (M : Int), szK k = s → ((s = 1 ∧ M = 256) ∨ (s = 2 ∧ M = 65536) ∨ (s = 4 ∧ M = 4294967296)) → ((msk s a : Nat) : Int) < M → ((msk s a : Nat) : Int) ≤ (a : Int) → ((a : Int) - ((msk s a : Nat) : Int)) % M = 0 → Calls Try.prog 6 #[.int .i64 k, .int .u64 (a : Int), .int .u64 (b : Int)] w fun e w' => e = .returned (.bool true) ∧ Plus w w' := fun s M e1 e2 e3 e4 e5 => by
        rw [← e1] at e2 e3 e4 e5
        exact back_s k a b _ _ _ (szK k) (bs (szK k) a) (toN k a) M _ w (Lib.hid rfl) e2 (Lib.hid rfl) X W C1 C2 C3 C4 (Lib.hid hg) (Lib.hid rfl) (Lib.hid (fn_tn h8.1 h6 rfl)) (by omega) e3 e4 e5 (by omega)
      rcases hs with hs | hs | hs | hs | hs
      · exact absurd hs h0
      · refine key 1 256 hs (by simp) ?_ ?_ ?_ <;> rw [msk_1] <;> omega
      · refine key 2 65536 hs (by simp) ?_ ?_ ?_ <;> rw [msk_2] <;> omega
      · refine key 4 4294967296 hs (by simp) ?_ ?_ ?_ <;> rw [msk_4] <;> omega
      · exfalso
        have h : k = 1 ∨ k = 2 ∨ k = 3 ∨ k = 4 ∨ k = 5 ∨ k = 6 := by omega
        rcases h with rfl | rfl | rfl | rfl | rfl | rfl <;> exact absurd hs (by decide)
    · have h78 : k = 7 ∨ k = 8 := by omega
      have hg : bigK k = true := by rcases h78 with rfl | rfl <;> decide
      have e8 : szK k = 8 := by rcases h78 with rfl | rfl <;> decide
      have em : msk (szK k) a = a := by rw [e8, msk_8]; omega
      exact back_8 k a b _ _ _ (szK k) (bs (szK k) a) (Bg.dig (tbN k a).natAbs) (decide (tbN k a < 0)) w ⟨e8, em⟩ (Lib.hid rfl) X W C1 C2 C3 C4 (Lib.hid hg) (Lib.hid ⟨rfl, rfl, ha⟩) (Lib.hid (by rw [em]; exact fb_tb hg hg ha))
end Go.Proofs.Ytjojkogmbgppcaa
