/- Masks, held against one another: the walk. -/
import Derived.WalkKit
import Derived.WalkSpells
import Derived.WalkLawsBesides
import Derived.Handy
import Derived.Deep.RegionHeld3
import Derived.Deep.DeepCutAuto
import Derived.Deep.QuietTactic
import Derived.BigQuiet
import Derived.Lib.Hide
import Derived.KernelRfl
import Derived.WalkMore
import Derived.Deep.LoopGhost
import Derived.Test.YtjojkogmbgppcaaC9
import Derived.Test.YtjojkogmbgppcaaR1
import Derived.Test.YtjojkogmbgppcaaM1
namespace Go.Proofs.Ytjojkogmbgppcaa
open Go.RowKit


set_option maxRecDepth 100000 in
set_option maxHeartbeats 8000000 in
theorem masks_y (k : Int) (a b s ra ro rs rx rw : Nat) (xs : List Nat) (w : World) (hs : Hid (SzN k s)) (h0s : Hid (s ≠ 0)) (hb : Hid (BsN k b xs s)) (h0 : Hid (ChN k 2 a b ra true)) (h1 : Hid (ChN k 3 a b ro true)) (h2 : Hid (ChN k 5 a b rx true)) (h3 : Hid (ChN k 1 a b rs true)) (h4 : Hid (ChN k 1 ra ro rs true)) (h5 : Hid (ChN k 4 ro ra rx true)) (h6 : Hid (ChN k 5 a a 0 true)) (h7 : Hid (ChN k 6 a b rw true)) (hw : Hid (WdN k xs rw true)) :
    Calls Try.prog 10 #[.int .i64 k, .int .u64 (a : Int), .int .u64 (b : Int)] w fun e w' => e = .returned (.bool true) ∧ Plus w w' := by
  have hs0 : ((s : Int) == 0) = false := by simp; exact h0s.out
  go_enter Try.func10, Try.ntmps10
  go_wp2_with fail
  with_reducible refine (first_c _).mono ?_
  rintro e w1 ⟨rfl, ⟨y, rfl⟩⟩
  go_wp2_with fail
  with_reducible refine (change_n h0 _).mono ?_
  rintro e w1 ⟨rfl, ⟨c0, rfl⟩⟩
  go_wp2_with fail
  with_reducible refine (change_n h1 _).mono ?_
  rintro e w1 ⟨rfl, ⟨c1, rfl⟩⟩
  go_wp2_with fail
  with_reducible refine (change_n h2 _).mono ?_
  rintro e w1 ⟨rfl, ⟨c2, rfl⟩⟩
  go_wp2_with fail
  with_reducible refine (change_n h3 _).mono ?_
  rintro e w1 ⟨rfl, ⟨c3, rfl⟩⟩
  go_wp2_with fail
  with_reducible refine (change_n h4 _).mono ?_
  rintro e w1 ⟨rfl, ⟨c4, rfl⟩⟩
  go_wp2_with fail
  with_reducible refine (change_n h5 _).mono ?_
  rintro e w1 ⟨rfl, ⟨c5, rfl⟩⟩
  go_wp2_with fail
  with_reducible refine (change_n h6 _).mono ?_
  rintro e w1 ⟨rfl, ⟨c6, rfl⟩⟩
  go_wp2_with fail
  with_reducible refine (change_n h7 _).mono ?_
  rintro e w1 ⟨rfl, ⟨c7, rfl⟩⟩
  go_wp2_with fail
  with_reducible refine (bytes_n hb _).mono ?_
  rintro e w1 ⟨A, d, rfl, hA, ⟨z, rfl⟩⟩
  have HA := Lib.hid hA
  clear hA
  go_wp2_with fail
  with_reducible refine (word_n hw _ HA).mono ?_
  rintro e w1 ⟨rfl, ⟨y1, rfl⟩⟩
  go_wp2_with fail
  with_reducible refine (size_n hs _).mono ?_
  rintro e w1 ⟨rfl, ⟨y2, rfl⟩⟩
  go_wp2_with fail
  with_reducible refine (first_c _).mono ?_
  rintro e w1 ⟨rfl, ⟨y3, rfl⟩⟩
  go_wp2_with fail
  go_ret
  exact ⟨rfl, (by repeat' (first | exact Plus.refl _ | refine Plus.alloc ?_ _ | refine Plus.plus ?_ _ | refine Plus.drew ?_ | refine Plus.drewN ?_ _))⟩

set_option maxRecDepth 100000 in
set_option maxHeartbeats 8000000 in
theorem masks_n (k : Int) (a b rw ra rb rg rl rn ro rs rx : Nat) (xs : List Nat) (w : World) (hs : Hid (SzN k 0))  (hb : Hid (BsN k b xs 0)) (h0 : Hid (ChN k 2 a b ra false)) (h1 : Hid (ChN k 3 a b ro false)) (h2 : Hid (ChN k 5 a b rx false)) (h3 : Hid (ChN k 1 a b rs false)) (h4 : Hid (ChN k 1 ra ro rb false)) (h5 : Hid (ChN k 4 ro ra rl false)) (h6 : Hid (ChN k 5 a a rn false)) (h7 : Hid (ChN k 6 a b rg false)) (hw : Hid (WdN k xs rw false)) :
    Calls Try.prog 10 #[.int .i64 k, .int .u64 (a : Int), .int .u64 (b : Int)] w fun e w' => e = .returned (.bool true) ∧ Plus w w' := by
  go_enter Try.func10, Try.ntmps10
  go_wp2_with fail
  with_reducible refine (first_c _).mono ?_
  rintro e w1 ⟨rfl, ⟨y, rfl⟩⟩
  go_wp2_with fail
  with_reducible refine (change_n h0 _).mono ?_
  rintro e w1 ⟨rfl, ⟨c0, rfl⟩⟩
  go_wp2_with fail
  with_reducible refine (change_n h1 _).mono ?_
  rintro e w1 ⟨rfl, ⟨c1, rfl⟩⟩
  go_wp2_with fail
  with_reducible refine (change_n h2 _).mono ?_
  rintro e w1 ⟨rfl, ⟨c2, rfl⟩⟩
  go_wp2_with fail
  with_reducible refine (change_n h3 _).mono ?_
  rintro e w1 ⟨rfl, ⟨c3, rfl⟩⟩
  go_wp2_with fail
  with_reducible refine (change_n h4 _).mono ?_
  rintro e w1 ⟨rfl, ⟨c4, rfl⟩⟩
  go_wp2_with fail
  with_reducible refine (change_n h5 _).mono ?_
  rintro e w1 ⟨rfl, ⟨c5, rfl⟩⟩
  go_wp2_with fail
  with_reducible refine (change_n h6 _).mono ?_
  rintro e w1 ⟨rfl, ⟨c6, rfl⟩⟩
  go_wp2_with fail
  with_reducible refine (change_n h7 _).mono ?_
  rintro e w1 ⟨rfl, ⟨c7, rfl⟩⟩
  go_wp2_with fail
  with_reducible refine (bytes_n hb _).mono ?_
  rintro e w1 ⟨A, d, rfl, hA, ⟨z, rfl⟩⟩
  have HA := Lib.hid hA
  clear hA
  go_wp2_with fail
  with_reducible refine (word_n hw _ HA).mono ?_
  rintro e w1 ⟨rfl, ⟨y1, rfl⟩⟩
  go_wp2_with fail
  with_reducible refine (size_n hs _).mono ?_
  rintro e w1 ⟨rfl, ⟨y2, rfl⟩⟩
  go_wp2_with fail
  with_reducible refine (first_c _).mono ?_
  rintro e w1 ⟨rfl, ⟨y3, rfl⟩⟩
  go_wp2_with fail
  go_ret
  exact ⟨rfl, (by repeat' (first | exact Plus.refl _ | refine Plus.alloc ?_ _ | refine Plus.plus ?_ _ | refine Plus.drew ?_ | refine Plus.drewN ?_ _))⟩

theorem masks_w (k : Int) (a b : Nat) (w : World) (ha : a < 18446744073709551616) (hb : b < 18446744073709551616) : Calls Try.prog 10 #[.int .i64 k, .int .u64 (a : Int), .int .u64 (b : Int)] w fun e w' => e = .returned (.bool true) ∧ Plus w w' := by
  have hs := szK_cases k
  have e1 := and_plus_or 64 a b ha hb
  have e2 := and_plus_xor 64 a b ha hb
  have l1 := msk_lt (x := a &&& b) (szK_le k)
  have l2 := msk_lt (x := a ||| b) (szK_le k)
  by_cases h0 : szK k = 0
  · have hf : ∀ op, chB k op = false := fun op => by simp [chB, h0]
    have hn : ∀ op p q, chW k op p q = 0 := fun op p q => chW_no (hf op)
    have hw : wdB k (bs 0 b) = false := by simp [wdB, h0]
    refine masks_n k a b 0 0 0 0 0 0 0 0 0 (bs 0 b) w (Lib.hid h0) (Lib.hid ⟨by rw [h0], rfl, hb⟩) ?_ ?_ ?_ ?_ ?_ ?_ ?_ ?_ (Lib.hid ⟨wdW_no hw, hw⟩)
    all_goals exact Lib.hid ⟨hn _ _ _, hf _, by omega, by omega⟩
  · have hf : ∀ op, 1 ≤ op → op ≤ 6 → chB k op = true := fun op p q => by simp [chB, h0, p, q]
    have hy : ∀ op p q, 1 ≤ op → op ≤ 6 → chW k op p q = msk (szK k) (opW op p q) := fun op p q u v => chW_yes (hf op u v)
    have hw : wdB k (bs (szK k) b) = true := by simp [wdB, h0, bs_len]
    refine masks_y k a b (szK k) (msk (szK k) (a &&& b)) (msk (szK k) (a ||| b)) (msk (szK k) ((a + b) % 18446744073709551616)) (msk (szK k) (a ^^^ b)) (msk (szK k) b) (bs (szK k) b) w (Lib.hid rfl) (Lib.hid h0) (Lib.hid ⟨rfl, bs_len _ _, hb⟩) ?_ ?_ ?_ ?_ ?_ ?_ ?_ ?_ (Lib.hid ⟨by rw [wdW_yes hw, wd_bs], hw⟩)
    · exact Lib.hid ⟨by rw [hy _ _ _ (by decide) (by decide), opW_2], hf _ (by decide) (by decide), ha, hb⟩
    · exact Lib.hid ⟨by rw [hy _ _ _ (by decide) (by decide), opW_3], hf _ (by decide) (by decide), ha, hb⟩
    · exact Lib.hid ⟨by rw [hy _ _ _ (by decide) (by decide), opW_5], hf _ (by decide) (by decide), ha, hb⟩
    · exact Lib.hid ⟨by rw [hy _ _ _ (by decide) (by decide), opW_1], hf _ (by decide) (by decide), ha, hb⟩
    · exact Lib.hid ⟨by rw [hy _ _ _ (by decide) (by decide), opW_1]; exact msk_both hs e1, hf _ (by decide) (by decide), l1, l2⟩
    · exact Lib.hid ⟨by rw [hy _ _ _ (by decide) (by decide), opW_4]; exact msk_less hs e2, hf _ (by decide) (by decide), l2, l1⟩
    · exact Lib.hid ⟨by rw [hy _ _ _ (by decide) (by decide), opW_5, Nat.xor_self]; exact Nat.zero_mod _, hf _ (by decide) (by decide), ha, ha⟩
    · exact Lib.hid ⟨by rw [hy _ _ _ (by decide) (by decide), opW_6], hf _ (by decide) (by decide), ha, hb⟩
end Go.Proofs.Ytjojkogmbgppcaa
