/- Words and bytes: the walk. -/
import Derived.WalkKit
import Derived.WalkSpells
import Derived.WalkLawsBesides
import Derived.Handy
import Derived.Deep.RegionHeld3
import Derived.Deep.DeepCutAuto
import Derived.Deep.QuietTactic
import Derived.BigQuiet
import Derived.Lib.Hide
import Derived.KernelRfl
import Derived.WalkMore
import Derived.Deep.LoopGhost
import Derived.Test.YtjojkogmbgppcaaC9
import Derived.Test.YtjojkogmbgppcaaR2
namespace Go.Proofs.Ytjojkogmbgppcaa
open Go.RowKit


def EqN (xs ys : List Nat) (b : Bool) : Prop := decide (xs = ys) = b
theorem refBytes_e {A C : Option Addr} {xs ys : List Nat} {n c m d : Nat} {b : Bool} (h : Hid (EqN xs ys b)) (w : World) (ha : Ar .u8 256 w A xs n c) (hb : Ar .u8 256 w C ys m d) :
    Calls Try.prog 19 #[.slice A n c, .slice C m d] w fun e w' => e = .returned (.bool b) ∧ Plus w w' := refBytes_n (Lib.hid h.out) w ha hb

set_option maxRecDepth 100000 in
set_option maxHeartbeats 4000000 in
theorem words_y (k : Int) (x s : Nat) (B : Option Addr) (ys xs : List Nat) (m c : Nat) (g : Bool) (w : World) (ha : Hid (Ar .u8 256 w B ys m c)) (hm : m ≤ 100) (hs : Hid (SzN k s)) (hg : Hid (BgN k g)) (hx : Hid (BsN k x xs s)) (h4 : Hid (bs s x = xs ∧ s ≤ 8 ∧ x < 18446744073709551616)) (he : Hid (EqN xs xs true)) (r : Nat) (h0 : s = m) (h1 : 0 < m) (h8 : m ≤ 8) (hw : Hid (WdN k ys r true)) (hr : Hid (wd ys = r)) : Calls Try.prog 3 #[.int .i64 k, .int .u64 (x : Int), .slice B m c] w fun e w' => e = .returned (.bool true) ∧ Plus w w' := by
  have hm' : (m : Int) ≤ 100 := by omega
  have h1' : 0 < (m : Int) := by omega
  subst h0
  go_enter Try.func3, Try.ntmps3
  go_wp2_with fail
  with_reducible refine (first_c _).mono ?_
  rintro e w1 ⟨rfl, ⟨y0, rfl⟩⟩
  go_wp2_with fail
  with_reducible refine (refSize_n hs _).mono ?_
  rintro e w1 ⟨rfl, ⟨y1, rfl⟩⟩
  go_wp2_with fail
  with_reducible refine (word_n hw _ (Lib.hid (ha.out.plus (by repeat' (first | exact Plus.refl _ | refine Plus.alloc ?_ _ | refine Plus.plus ?_ _ | refine Plus.drew ?_ | refine Plus.drewN ?_ _))))).mono ?_
  rintro e w1 ⟨rfl, ⟨y2, rfl⟩⟩
  go_wp2_with fail
  with_reducible refine (refWord_n hr _ (Lib.hid (ha.out.plus (by repeat' (first | exact Plus.refl _ | refine Plus.alloc ?_ _ | refine Plus.plus ?_ _ | refine Plus.drew ?_ | refine Plus.drewN ?_ _)))) h8).mono ?_
  rintro e w1 ⟨rfl, ⟨z2, rfl⟩⟩
  go_wp2_with fail
  with_reducible refine (first_c _).mono ?_
  rintro e w1 ⟨rfl, ⟨y3, rfl⟩⟩
  go_wp2_with fail
  with_reducible refine (size_n hs _).mono ?_
  rintro e w1 ⟨rfl, ⟨y4, rfl⟩⟩
  go_wp2_with fail
  with_reducible refine (isBig_n hg _).mono ?_
  rintro e w1 ⟨rfl, ⟨y5, rfl⟩⟩
  go_wp2_with fail
  with_reducible refine (refIsBig_n hg _).mono ?_
  rintro e w1 ⟨rfl, ⟨y6, rfl⟩⟩
  go_wp2_with fail
  with_reducible refine (bytes_n hx _).mono ?_
  rintro e w1 ⟨A, d, rfl, hA, ⟨y7, rfl⟩⟩
  have HA := Lib.hid hA
  clear hA
  go_wp2_with fail
  with_reducible refine (refBytes4_n h4 _).mono ?_
  rintro e w1 ⟨D, d2, rfl, hD, ⟨y8, rfl⟩⟩
  have HD := Lib.hid hD
  clear hD
  go_wp2_with fail
  with_reducible refine (refBytes_e he _ (HA.out.plus (by repeat' (first | exact Plus.refl _ | refine Plus.alloc ?_ _ | refine Plus.plus ?_ _ | refine Plus.drew ?_ | refine Plus.drewN ?_ _))) HD.out).mono ?_
  rintro e w1 ⟨rfl, ⟨y9, rfl⟩⟩
  go_wp2_with fail
  go_ret
  exact ⟨rfl, (by repeat' (first | exact Plus.refl _ | refine Plus.alloc ?_ _ | refine Plus.plus ?_ _ | refine Plus.drew ?_ | refine Plus.drewN ?_ _))⟩

set_option maxRecDepth 100000 in
set_option maxHeartbeats 4000000 in
theorem words_0 (k : Int) (x s : Nat) (B : Option Addr) (ys xs : List Nat) (m c : Nat) (g : Bool) (w : World) (ha : Hid (Ar .u8 256 w B ys m c)) (hm : m ≤ 100) (hs : Hid (SzN k s)) (hg : Hid (BgN k g)) (hx : Hid (BsN k x xs s)) (h4 : Hid (bs s x = xs ∧ s ≤ 8 ∧ x < 18446744073709551616)) (he : Hid (EqN xs xs true)) (h0 : s = 0) (hw : Hid (WdN k ys 0 false)) : Calls Try.prog 3 #[.int .i64 k, .int .u64 (x : Int), .slice B m c] w fun e w' => e = .returned (.bool true) ∧ Plus w w' := by
  have hm' : (m : Int) ≤ 100 := by omega
  have h0' : (s : Int) ≤ 0 := by omega
  clear h0
  go_enter Try.func3, Try.ntmps3
  go_wp2_with fail
  with_reducible refine (first_c _).mono ?_
  rintro e w1 ⟨rfl, ⟨y0, rfl⟩⟩
  go_wp2_with fail
  with_reducible refine (refSize_n hs _).mono ?_
  rintro e w1 ⟨rfl, ⟨y1, rfl⟩⟩
  go_wp2_with fail
  with_reducible refine (word_n hw _ (Lib.hid (ha.out.plus (by repeat' (first | exact Plus.refl _ | refine Plus.alloc ?_ _ | refine Plus.plus ?_ _ | refine Plus.drew ?_ | refine Plus.drewN ?_ _))))).mono ?_
  rintro e w1 ⟨rfl, ⟨y2, rfl⟩⟩
  go_wp2_with fail
  with_reducible refine (first_c _).mono ?_
  rintro e w1 ⟨rfl, ⟨y3, rfl⟩⟩
  go_wp2_with fail
  with_reducible refine (size_n hs _).mono ?_
  rintro e w1 ⟨rfl, ⟨y4, rfl⟩⟩
  go_wp2_with fail
  with_reducible refine (isBig_n hg _).mono ?_
  rintro e w1 ⟨rfl, ⟨y5, rfl⟩⟩
  go_wp2_with fail
  with_reducible refine (refIsBig_n hg _).mono ?_
  rintro e w1 ⟨rfl, ⟨y6, rfl⟩⟩
  go_wp2_with fail
  with_reducible refine (bytes_n hx _).mono ?_
  rintro e w1 ⟨A, d, rfl, hA, ⟨y7, rfl⟩⟩
  have HA := Lib.hid hA
  clear hA
  go_wp2_with fail
  with_reducible refine (refBytes4_n h4 _).mono ?_
  rintro e w1 ⟨D, d2, rfl, hD, ⟨y8, rfl⟩⟩
  have HD := Lib.hid hD
  clear hD
  go_wp2_with fail
  with_reducible refine (refBytes_e he _ (HA.out.plus (by repeat' (first | exact Plus.refl _ | refine Plus.alloc ?_ _ | refine Plus.plus ?_ _ | refine Plus.drew ?_ | refine Plus.drewN ?_ _))) HD.out).mono ?_
  rintro e w1 ⟨rfl, ⟨y9, rfl⟩⟩
  go_wp2_with fail
  go_ret
  exact ⟨rfl, (by repeat' (first | exact Plus.refl _ | refine Plus.alloc ?_ _ | refine Plus.plus ?_ _ | refine Plus.drew ?_ | refine Plus.drewN ?_ _))⟩

set_option maxRecDepth 100000 in
set_option maxHeartbeats 4000000 in
theorem words_n (k : Int) (x s : Nat) (B : Option Addr) (ys xs : List Nat) (m c : Nat) (g : Bool) (w : World) (ha : Hid (Ar .u8 256 w B ys m c)) (hm : m ≤ 100) (hs : Hid (SzN k s)) (hg : Hid (BgN k g)) (hx : Hid (BsN k x xs s)) (h4 : Hid (bs s x = xs ∧ s ≤ 8 ∧ x < 18446744073709551616)) (he : Hid (EqN xs xs true)) (h0 : 0 < s) (h1 : ((m : Int) == (s : Int)) = false) (hw : Hid (WdN k ys 0 false)) : Calls Try.prog 3 #[.int .i64 k, .int .u64 (x : Int), .slice B m c] w fun e w' => e = .returned (.bool true) ∧ Plus w w' := by
  have hm' : (m : Int) ≤ 100 := by omega
  have h0' : 0 < (s : Int) := by omega
  go_enter Try.func3, Try.ntmps3
  go_wp2_with fail
  with_reducible refine (first_c _).mono ?_
  rintro e w1 ⟨rfl, ⟨y0, rfl⟩⟩
  go_wp2_with fail
  with_reducible refine (refSize_n hs _).mono ?_
  rintro e w1 ⟨rfl, ⟨y1, rfl⟩⟩
  go_wp2_with fail
  with_reducible refine (word_n hw _ (Lib.hid (ha.out.plus (by repeat' (first | exact Plus.refl _ | refine Plus.alloc ?_ _ | refine Plus.plus ?_ _ | refine Plus.drew ?_ | refine Plus.drewN ?_ _))))).mono ?_
  rintro e w1 ⟨rfl, ⟨y2, rfl⟩⟩
  go_wp2_with fail
  with_reducible refine (first_c _).mono ?_
  rintro e w1 ⟨rfl, ⟨y3, rfl⟩⟩
  go_wp2_with fail
  with_reducible refine (size_n hs _).mono ?_
  rintro e w1 ⟨rfl, ⟨y4, rfl⟩⟩
  go_wp2_with fail
  with_reducible refine (isBig_n hg _).mono ?_
  rintro e w1 ⟨rfl, ⟨y5, rfl⟩⟩
  go_wp2_with fail
  with_reducible refine (refIsBig_n hg _).mono ?_
  rintro e w1 ⟨rfl, ⟨y6, rfl⟩⟩
  go_wp2_with fail
  with_reducible refine (bytes_n hx _).mono ?_
  rintro e w1 ⟨A, d, rfl, hA, ⟨y7, rfl⟩⟩
  have HA := Lib.hid hA
  clear hA
  go_wp2_with fail
  with_reducible refine (refBytes4_n h4 _).mono ?_
  rintro e w1 ⟨D, d2, rfl, hD, ⟨y8, rfl⟩⟩
  have HD := Lib.hid hD
  clear hD
  go_wp2_with fail
  with_reducible refine (refBytes_e he _ (HA.out.plus (by repeat' (first | exact Plus.refl _ | refine Plus.alloc ?_ _ | refine Plus.plus ?_ _ | refine Plus.drew ?_ | refine Plus.drewN ?_ _))) HD.out).mono ?_
  rintro e w1 ⟨rfl, ⟨y9, rfl⟩⟩
  go_wp2_with fail
  go_ret
  exact ⟨rfl, (by repeat' (first | exact Plus.refl _ | refine Plus.alloc ?_ _ | refine Plus.plus ?_ _ | refine Plus.drew ?_ | refine Plus.drewN ?_ _))⟩

set_option maxRecDepth 100000 in
theorem words_l (k : Int) (x : Nat) (B : Option Addr) (m c : Nat) (w : World) (hm : ¬ m ≤ 100) : Calls Try.prog 3 #[.int .i64 k, .int .u64 (x : Int), .slice B m c] w fun e w' => e = .returned (.bool true) ∧ Plus w w' := by
  have hm' : 100 < (m : Int) := by omega
  go_enter Try.func3, Try.ntmps3
  go_wp2_with fail
  with_reducible refine (first_c _).mono ?_
  rintro e w1 ⟨rfl, ⟨y0, rfl⟩⟩
  go_wp2_with fail
  with_reducible refine (first_c _).mono ?_
  rintro e w1 ⟨rfl, ⟨y1, rfl⟩⟩
  go_wp2_with fail
  go_ret
  exact ⟨rfl, (by repeat' (first | exact Plus.refl _ | refine Plus.alloc ?_ _ | refine Plus.plus ?_ _ | refine Plus.drew ?_ | refine Plus.drewN ?_ _))⟩

theorem words_w (k : Int) (x : Nat) (B : Option Addr) (m c : Nat) (ys : List Nat) (w : World) (hx : x < 18446744073709551616) (ha : Ar .u8 256 w B ys m c) : Calls Try.prog 3 #[.int .i64 k, .int .u64 (x : Int), .slice B m c] w fun e w' => e = .returned (.bool true) ∧ Plus w w' := by
  by_cases hm : m ≤ 100
  · have hs8 := szK_le k
    have hl := ha.len
    by_cases h0 : szK k = 0
    · have hb : wdB k ys = false := by simp [wdB, h0]
      exact words_0 k x (szK k) B ys (bs (szK k) x) m c (bigK k) w (Lib.hid ha) hm (Lib.hid rfl) (Lib.hid rfl) (Lib.hid ⟨rfl, bs_len _ _, hx⟩) (Lib.hid ⟨rfl, hs8, hx⟩) (Lib.hid (decide_eq_true rfl)) h0 (Lib.hid ⟨wdW_no hb, hb⟩)
    · by_cases h1 : szK k = m
      · have hb : wdB k ys = true := decide_eq_true ⟨h0, by rw [← hl, h1]⟩
        exact words_y k x (szK k) B ys (bs (szK k) x) m c (bigK k) w (Lib.hid ha) hm (Lib.hid rfl) (Lib.hid rfl) (Lib.hid ⟨rfl, bs_len _ _, hx⟩) (Lib.hid ⟨rfl, hs8, hx⟩) (Lib.hid (decide_eq_true rfl)) (wd ys) h1 (by omega) (by omega) (Lib.hid ⟨wdW_yes hb, hb⟩) (Lib.hid rfl)
      · have hb : wdB k ys = false := decide_eq_false fun q => h1 (by rw [hl, q.2])
        exact words_n k x (szK k) B ys (bs (szK k) x) m c (bigK k) w (Lib.hid ha) hm (Lib.hid rfl) (Lib.hid rfl) (Lib.hid ⟨rfl, bs_len _ _, hx⟩) (Lib.hid ⟨rfl, hs8, hx⟩) (Lib.hid (decide_eq_true rfl)) (by omega) (by simp; omega) (Lib.hid ⟨wdW_no hb, hb⟩)
  · exact words_l k x B m c w hm
end Go.Proofs.Ytjojkogmbgppcaa
