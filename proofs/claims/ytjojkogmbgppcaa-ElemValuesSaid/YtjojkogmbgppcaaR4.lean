/- The document's numbers of words. -/
import Derived.Test.YtjojkogmbgppcaaR3
namespace Go.Proofs.Ytjojkogmbgppcaa
open Go.RowKit


theorem refMask_z {s x r : Nat} {z : Int} (hz : Hid ((r : Int) = z)) (h : Hid (MkN s x r)) (w : World) : Calls Try.prog 42 #[.int .i64 (s : Int), .int .u64 (x : Int)] w fun e w' => e = .returned (.int .u64 z) ∧ Plus w w' := by
  rw [← hz.out]
  exact refMask_n h w
theorem refSize_i {k : Int} {s : Nat} {z : Int} (hz : (s : Int) = z) (h : Hid (SzN k s)) (w : World) : Calls Try.prog 13 #[.int .i64 k] w fun e w' => e = .returned (.int .i64 z) ∧ Plus w w' := by
  rw [← hz]
  exact refSize_n h w
theorem refMask_i {s x r : Nat} {y z : Int} (hy : (s : Int) = y) (hz : Hid ((r : Int) = z)) (h : Hid (MkN s x r)) (w : World) : Calls Try.prog 42 #[.int .i64 y, .int .u64 (x : Int)] w fun e w' => e = .returned (.int .u64 z) ∧ Plus w w' := by
  rw [← hy]
  exact refMask_z hz h w
set_option maxRecDepth 100000 in
set_option maxHeartbeats 8000000 in
theorem refToNum_n {k : Int} {x : Nat} {n : Int} (h : Hid (TnN k x n)) (w : World) (hx : x < 18446744073709551616) : Calls Try.prog 29 #[.int .i64 k, .int .u64 (x : Int)] w fun e w' => e = .returned (.agg #[.int .i64 0, .int .i64 n]) ∧ Plus w w' := by
  obtain rfl := h.out
  clear h
  by_cases h6 : 1 ≤ k ∧ k ≤ 6
  · have hk : k = 1 ∨ k = 2 ∨ k = 3 ∨ k = 4 ∨ k = 5 ∨ k = 6 := by omega
    clear h6
    rcases hk with rfl | rfl | rfl | rfl | rfl | rfl
    · obtain ⟨z, hz⟩ : ∃ z : Int, ((msk 1 x : Nat) : Int) = z := ⟨_, rfl⟩
      have hzx : z = (x : Int) % 256 := by rw [← hz, msk_1]; omega
      have hs : Hid (SzN 1 1) := Lib.hid (show szK 1 = 1 by decide)
      have hg : Hid (BgN 1 false) := Lib.hid (show bigK 1 = false by decide)
      have hm : Hid (MkN 1 x (msk 1 x)) := Lib.hid ⟨rfl, by omega, hx⟩
      have hi : ((1 : Nat) : Int) = 1 := rfl
      have HZ := Lib.hid hz
      have HX := Lib.hid hx
      have z0 : 0 ≤ z := by omega
      have z1 : z < 256 := by omega
      by_cases hh : 128 ≤ z
      · have hv : toN 1 x = z - 256 := by rw [toN_1]; omega
        rw [hv]
        clear hz hx hzx hv
        go_enter Try.func29, Try.ntmps29
        go_wp2_with fail
        with_reducible refine (refSize_i hi hs _).mono ?_
        rintro e w1 ⟨rfl, ⟨x1, rfl⟩⟩
        go_wp2_with fail
        with_reducible refine (refIsBig_n hg _).mono ?_
        rintro e w1 ⟨rfl, ⟨x2, rfl⟩⟩
        go_wp2_with fail
        with_reducible refine (refSize_i hi hs _).mono ?_
        rintro e w1 ⟨rfl, ⟨x3, rfl⟩⟩
        go_wp2_with fail
        with_reducible refine (refMask_i hi HZ hm _).mono ?_
        rintro e w1 ⟨rfl, ⟨x4, rfl⟩⟩
        go_wp2_with fail
        with_reducible refine (refSize_i hi hs _).mono ?_
        rintro e w1 ⟨rfl, ⟨x5, rfl⟩⟩
        go_wp2_with fail
        with_reducible refine (refSize_i hi hs _).mono ?_
        rintro e w1 ⟨rfl, ⟨x6, rfl⟩⟩
        go_wp2_with fail
        go_returns
        exact ⟨rfl, (by repeat' (first | exact Plus.refl _ | refine Plus.alloc ?_ _ | refine Plus.plus ?_ _ | refine Plus.drew ?_ | refine Plus.drewN ?_ _))⟩
      · have hv : toN 1 x = z := by rw [toN_1]; omega
        have hh' : z < 128 := by omega
        rw [hv]
        clear hz hx hzx hv hh
        go_enter Try.func29, Try.ntmps29
        go_wp2_with fail
        with_reducible refine (refSize_i hi hs _).mono ?_
        rintro e w1 ⟨rfl, ⟨x1, rfl⟩⟩
        go_wp2_with fail
        with_reducible refine (refIsBig_n hg _).mono ?_
        rintro e w1 ⟨rfl, ⟨x2, rfl⟩⟩
        go_wp2_with fail
        with_reducible refine (refSize_i hi hs _).mono ?_
        rintro e w1 ⟨rfl, ⟨x3, rfl⟩⟩
        go_wp2_with fail
        with_reducible refine (refMask_i hi HZ hm _).mono ?_
        rintro e w1 ⟨rfl, ⟨x4, rfl⟩⟩
        go_wp2_with fail
        with_reducible refine (refSize_i hi hs _).mono ?_
        rintro e w1 ⟨rfl, ⟨x5, rfl⟩⟩
        go_wp2_with fail
        go_returns
        exact ⟨rfl, (by repeat' (first | exact Plus.refl _ | refine Plus.alloc ?_ _ | refine Plus.plus ?_ _ | refine Plus.drew ?_ | refine Plus.drewN ?_ _))⟩
    · obtain ⟨z, hz⟩ : ∃ z : Int, ((msk 1 x : Nat) : Int) = z := ⟨_, rfl⟩
      have hzx : z = (x : Int) % 256 := by rw [← hz, msk_1]; omega
      have hs : Hid (SzN 2 1) := Lib.hid (show szK 2 = 1 by decide)
      have hg : Hid (BgN 2 false) := Lib.hid (show bigK 2 = false by decide)
      have hm : Hid (MkN 1 x (msk 1 x)) := Lib.hid ⟨rfl, by omega, hx⟩
      have hi : ((1 : Nat) : Int) = 1 := rfl
      have HZ := Lib.hid hz
      have HX := Lib.hid hx
      have z0 : 0 ≤ z := by omega
      have z1 : z < 256 := by omega
      have hv : toN 2 x = z := by rw [toN_2]; omega
      rw [hv]
      clear hz hx hzx hv
      go_enter Try.func29, Try.ntmps29
      go_wp2_with fail
      with_reducible refine (refSize_i hi hs _).mono ?_
      rintro e w1 ⟨rfl, ⟨x1, rfl⟩⟩
      go_wp2_with fail
      with_reducible refine (refIsBig_n hg _).mono ?_
      rintro e w1 ⟨rfl, ⟨x2, rfl⟩⟩
      go_wp2_with fail
      with_reducible refine (refSize_i hi hs _).mono ?_
      rintro e w1 ⟨rfl, ⟨x3, rfl⟩⟩
      go_wp2_with fail
      with_reducible refine (refMask_i hi HZ hm _).mono ?_
      rintro e w1 ⟨rfl, ⟨x4, rfl⟩⟩
      go_wp2_with fail
      go_returns
      exact ⟨rfl, (by repeat' (first | exact Plus.refl _ | refine Plus.alloc ?_ _ | refine Plus.plus ?_ _ | refine Plus.drew ?_ | refine Plus.drewN ?_ _))⟩
    · obtain ⟨z, hz⟩ : ∃ z : Int, ((msk 2 x : Nat) : Int) = z := ⟨_, rfl⟩
      have hzx : z = (x : Int) % 65536 := by rw [← hz, msk_2]; omega
      have hs : Hid (SzN 3 2) := Lib.hid (show szK 3 = 2 by decide)
      have hg : Hid (BgN 3 false) := Lib.hid (show bigK 3 = false by decide)
      have hm : Hid (MkN 2 x (msk 2 x)) := Lib.hid ⟨rfl, by omega, hx⟩
      have hi : ((2 : Nat) : Int) = 2 := rfl
      have HZ := Lib.hid hz
      have HX := Lib.hid hx
      have z0 : 0 ≤ z := by omega
      have z1 : z < 65536 := by omega
      by_cases hh : 32768 ≤ z
      · have hv : toN 3 x = z - 65536 := by rw [toN_3]; omega
        rw [hv]
        clear hz hx hzx hv
        go_enter Try.func29, Try.ntmps29
        go_wp2_with fail
        with_reducible refine (refSize_i hi hs _).mono ?_
        rintro e w1 ⟨rfl, ⟨x1, rfl⟩⟩
        go_wp2_with fail
        with_reducible refine (refIsBig_n hg _).mono ?_
        rintro e w1 ⟨rfl, ⟨x2, rfl⟩⟩
        go_wp2_with fail
        with_reducible refine (refSize_i hi hs _).mono ?_
        rintro e w1 ⟨rfl, ⟨x3, rfl⟩⟩
        go_wp2_with fail
        with_reducible refine (refMask_i hi HZ hm _).mono ?_
        rintro e w1 ⟨rfl, ⟨x4, rfl⟩⟩
        go_wp2_with fail
        with_reducible refine (refSize_i hi hs _).mono ?_
        rintro e w1 ⟨rfl, ⟨x5, rfl⟩⟩
        go_wp2_with fail
        with_reducible refine (refSize_i hi hs _).mono ?_
        rintro e w1 ⟨rfl, ⟨x6, rfl⟩⟩
        go_wp2_with fail
        go_returns
        exact ⟨rfl, (by repeat' (first | exact Plus.refl _ | refine Plus.alloc ?_ _ | refine Plus.plus ?_ _ | refine Plus.drew ?_ | refine Plus.drewN ?_ _))⟩
      · have hv : toN 3 x = z := by rw [toN_3]; omega
        have hh' : z < 32768 := by omega
        rw [hv]
        clear hz hx hzx hv hh
        go_enter Try.func29, Try.ntmps29
        go_wp2_with fail
        with_reducible refine (refSize_i hi hs _).mono ?_
        rintro e w1 ⟨rfl, ⟨x1, rfl⟩⟩
        go_wp2_with fail
        with_reducible refine (refIsBig_n hg _).mono ?_
        rintro e w1 ⟨rfl, ⟨x2, rfl⟩⟩
        go_wp2_with fail
        with_reducible refine (refSize_i hi hs _).mono ?_
        rintro e w1 ⟨rfl, ⟨x3, rfl⟩⟩
        go_wp2_with fail
        with_reducible refine (refMask_i hi HZ hm _).mono ?_
        rintro e w1 ⟨rfl, ⟨x4, rfl⟩⟩
        go_wp2_with fail
        with_reducible refine (refSize_i hi hs _).mono ?_
        rintro e w1 ⟨rfl, ⟨x5, rfl⟩⟩
        go_wp2_with fail
        go_returns
        exact ⟨rfl, (by repeat' (first | exact Plus.refl _ | refine Plus.alloc ?_ _ | refine Plus.plus ?_ _ | refine Plus.drew ?_ | refine Plus.drewN ?_ _))⟩
    · obtain ⟨z, hz⟩ : ∃ z : Int, ((msk 2 x : Nat) : Int) = z := ⟨_, rfl⟩
      have hzx : z = (x : Int) % 65536 := by rw [← hz, msk_2]; omega
      have hs : Hid (SzN 4 2) := Lib.hid (show szK 4 = 2 by decide)
      have hg : Hid (BgN 4 false) := Lib.hid (show bigK 4 = false by decide)
      have hm : Hid (MkN 2 x (msk 2 x)) := Lib.hid ⟨rfl, by omega, hx⟩
      have hi : ((2 : Nat) : Int) = 2 := rfl
      have HZ := Lib.hid hz
      have HX := Lib.hid hx
      have z0 : 0 ≤ z := by omega
      have z1 : z < 65536 := by omega
      have hv : toN 4 x = z := by rw [toN_4]; omega
      rw [hv]
      clear hz hx hzx hv
      go_enter Try.func29, Try.ntmps29
      go_wp2_with fail
      with_reducible refine (refSize_i hi hs _).mono ?_
      rintro e w1 ⟨rfl, ⟨x1, rfl⟩⟩
      go_wp2_with fail
      with_reducible refine (refIsBig_n hg _).mono ?_
      rintro e w1 ⟨rfl, ⟨x2, rfl⟩⟩
      go_wp2_with fail
      with_reducible refine (refSize_i hi hs _).mono ?_
      rintro e w1 ⟨rfl, ⟨x3, rfl⟩⟩
      go_wp2_with fail
      with_reducible refine (refMask_i hi HZ hm _).mono ?_
      rintro e w1 ⟨rfl, ⟨x4, rfl⟩⟩
      go_wp2_with fail
      go_returns
      exact ⟨rfl, (by repeat' (first | exact Plus.refl _ | refine Plus.alloc ?_ _ | refine Plus.plus ?_ _ | refine Plus.drew ?_ | refine Plus.drewN ?_ _))⟩
    · obtain ⟨z, hz⟩ : ∃ z : Int, ((msk 4 x : Nat) : Int) = z := ⟨_, rfl⟩
      have hzx : z = (x : Int) % 4294967296 := by rw [← hz, msk_4]; omega
      have hs : Hid (SzN 5 4) := Lib.hid (show szK 5 = 4 by decide)
      have hg : Hid (BgN 5 false) := Lib.hid (show bigK 5 = false by decide)
      have hm : Hid (MkN 4 x (msk 4 x)) := Lib.hid ⟨rfl, by omega, hx⟩
      have hi : ((4 : Nat) : Int) = 4 := rfl
      have HZ := Lib.hid hz
      have HX := Lib.hid hx
      have z0 : 0 ≤ z := by omega
      have z1 : z < 4294967296 := by omega
      by_cases hh : 2147483648 ≤ z
      · have hv : toN 5 x = z - 4294967296 := by rw [toN_5]; omega
        rw [hv]
        clear hz hx hzx hv
        go_enter Try.func29, Try.ntmps29
        go_wp2_with fail
        with_reducible refine (refSize_i hi hs _).mono ?_
        rintro e w1 ⟨rfl, ⟨x1, rfl⟩⟩
        go_wp2_with fail
        with_reducible refine (refIsBig_n hg _).mono ?_
        rintro e w1 ⟨rfl, ⟨x2, rfl⟩⟩
        go_wp2_with fail
        with_reducible refine (refSize_i hi hs _).mono ?_
        rintro e w1 ⟨rfl, ⟨x3, rfl⟩⟩
        go_wp2_with fail
        with_reducible refine (refMask_i hi HZ hm _).mono ?_
        rintro e w1 ⟨rfl, ⟨x4, rfl⟩⟩
        go_wp2_with fail
        with_reducible refine (refSize_i hi hs _).mono ?_
        rintro e w1 ⟨rfl, ⟨x5, rfl⟩⟩
        go_wp2_with fail
        with_reducible refine (refSize_i hi hs _).mono ?_
        rintro e w1 ⟨rfl, ⟨x6, rfl⟩⟩
        go_wp2_with fail
        go_returns
        exact ⟨rfl, (by repeat' (first | exact Plus.refl _ | refine Plus.alloc ?_ _ | refine Plus.plus ?_ _ | refine Plus.drew ?_ | refine Plus.drewN ?_ _))⟩
      · have hv : toN 5 x = z := by rw [toN_5]; omega
        have hh' : z < 2147483648 := by omega
        rw [hv]
        clear hz hx hzx hv hh
        go_enter Try.func29, Try.ntmps29
        go_wp2_with fail
        with_reducible refine (refSize_i hi hs _).mono ?_
        rintro e w1 ⟨rfl, ⟨x1, rfl⟩⟩
        go_wp2_with fail
        with_reducible refine (refIsBig_n hg _).mono ?_
        rintro e w1 ⟨rfl, ⟨x2, rfl⟩⟩
        go_wp2_with fail
        with_reducible refine (refSize_i hi hs _).mono ?_
        rintro e w1 ⟨rfl, ⟨x3, rfl⟩⟩
        go_wp2_with fail
        with_reducible refine (refMask_i hi HZ hm _).mono ?_
        rintro e w1 ⟨rfl, ⟨x4, rfl⟩⟩
        go_wp2_with fail
        with_reducible refine (refSize_i hi hs _).mono ?_
        rintro e w1 ⟨rfl, ⟨x5, rfl⟩⟩
        go_wp2_with fail
        go_returns
        exact ⟨rfl, (by repeat' (first | exact Plus.refl _ | refine Plus.alloc ?_ _ | refine Plus.plus ?_ _ | refine Plus.drew ?_ | refine Plus.drewN ?_ _))⟩
    · obtain ⟨z, hz⟩ : ∃ z : Int, ((msk 4 x : Nat) : Int) = z := ⟨_, rfl⟩
      have hzx : z = (x : Int) % 4294967296 := by rw [← hz, msk_4]; omega
      have hs : Hid (SzN 6 4) := Lib.hid (show szK 6 = 4 by decide)
      have hg : Hid (BgN 6 false) := Lib.hid (show bigK 6 = false by decide)
      have hm : Hid (MkN 4 x (msk 4 x)) := Lib.hid ⟨rfl, by omega, hx⟩
      have hi : ((4 : Nat) : Int) = 4 := rfl
      have HZ := Lib.hid hz
      have HX := Lib.hid hx
      have z0 : 0 ≤ z := by omega
      have z1 : z < 4294967296 := by omega
      have hv : toN 6 x = z := by rw [toN_6]; omega
      rw [hv]
      clear hz hx hzx hv
      go_enter Try.func29, Try.ntmps29
      go_wp2_with fail
      with_reducible refine (refSize_i hi hs _).mono ?_
      rintro e w1 ⟨rfl, ⟨x1, rfl⟩⟩
      go_wp2_with fail
      with_reducible refine (refIsBig_n hg _).mono ?_
      rintro e w1 ⟨rfl, ⟨x2, rfl⟩⟩
      go_wp2_with fail
      with_reducible refine (refSize_i hi hs _).mono ?_
      rintro e w1 ⟨rfl, ⟨x3, rfl⟩⟩
      go_wp2_with fail
      with_reducible refine (refMask_i hi HZ hm _).mono ?_
      rintro e w1 ⟨rfl, ⟨x4, rfl⟩⟩
      go_wp2_with fail
      go_returns
      exact ⟨rfl, (by repeat' (first | exact Plus.refl _ | refine Plus.alloc ?_ _ | refine Plus.plus ?_ _ | refine Plus.drew ?_ | refine Plus.drewN ?_ _))⟩
  · rw [toN_no x h6]
    obtain ⟨s, hs⟩ : ∃ s, szK k = s := ⟨_, rfl⟩
    have hsn := Lib.hid (show SzN k s from hs)
    by_cases h0 : s = 0
    · subst h0
      clear hs hx h6
      go_enter Try.func29, Try.ntmps29
      go_wp2_with fail
      with_reducible refine (refSize_n hsn _).mono ?_
      rintro e w1 ⟨rfl, ⟨x1, rfl⟩⟩
      go_wp2_with fail
      go_returns
      exact ⟨rfl, (by repeat' (first | exact Plus.refl _ | refine Plus.alloc ?_ _ | refine Plus.plus ?_ _ | refine Plus.drew ?_ | refine Plus.drewN ?_ _))⟩
    · have hs0 : ((s : Int) == 0) = false := by simp [h0]
      have hb : bigK k = true := by
        have : 1 ≤ k ∧ k ≤ 8 := by
          apply Decidable.byContradiction
          intro h
          rw [show szK k = 0 from if_neg h] at hs
          omega
        have h78 : k = 7 ∨ k = 8 := by omega
        rcases h78 with rfl | rfl <;> decide
      have hg := Lib.hid (show BgN k true from hb)
      clear hs hx h6 hb h0
      go_enter Try.func29, Try.ntmps29
      go_wp2_with fail
      with_reducible refine (refSize_n hsn _).mono ?_
      rintro e w1 ⟨rfl, ⟨x1, rfl⟩⟩
      go_wp2_with fail
      with_reducible refine (refIsBig_n hg _).mono ?_
      rintro e w1 ⟨rfl, ⟨x2, rfl⟩⟩
      go_wp2_with fail
      go_returns
      exact ⟨rfl, (by repeat' (first | exact Plus.refl _ | refine Plus.alloc ?_ _ | refine Plus.plus ?_ _ | refine Plus.drew ?_ | refine Plus.drewN ?_ _))⟩
theorem few_c (b : Bool) (A : Option Addr) (n c : Nat) (w : World) : Calls Try.prog 22 #[.agg #[.bool b, .slice A n c]] w fun e w' => e = .returned (.bool (decide (n ≤ 40))) ∧ Plus w w' := by
  go_enter Try.func22, Try.ntmps22
  go_wp2_with fail
  go_ret
  exact ⟨by simp; omega, (by repeat' (first | exact Plus.refl _ | refine Plus.alloc ?_ _ | refine Plus.plus ?_ _ | refine Plus.drew ?_ | refine Plus.drewN ?_ _))⟩
end Go.Proofs.Ytjojkogmbgppcaa
