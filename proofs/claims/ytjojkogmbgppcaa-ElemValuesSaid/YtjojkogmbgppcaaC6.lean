/- The word of bytes. -/
import Derived.WalkKit
import Derived.WalkSpells
import Derived.WalkLawsBesides
import Derived.Handy
import Derived.Deep.RegionHeld3
import Derived.Deep.DeepCutAuto
import Derived.Deep.QuietTactic
import Derived.BigQuiet
import Derived.Lib.Hide
import Derived.KernelRfl
import Derived.WalkMore
import Derived.Deep.LoopGhost
import Derived.Test.YtjojkogmbgppcaaC5
namespace Go.Proofs.Ytjojkogmbgppcaa
open Go.RowKit


/-- The word of bytes, the least first. -/
def wd : List Nat → Nat
  | [] => 0
  | x :: xs => x + 256 * wd xs
theorem wd_app (xs : List Nat) (y : Nat) : wd (xs ++ [y]) = wd xs + y * 2 ^ (8 * xs.length) := by
  induction xs with
  | nil => simp [wd]
  | cons x xs ih =>
    rw [List.cons_append, wd, wd, ih, List.length_cons, Nat.mul_add 8, Nat.pow_add, Nat.mul_add]
    have : 256 * (y * 2 ^ (8 * xs.length)) = y * (2 ^ (8 * xs.length) * 2 ^ (8 * 1)) := by
      rw [← Nat.mul_assoc, Nat.mul_comm 256 y, Nat.mul_assoc, Nat.mul_comm 256]
    omega
theorem wd_lt (xs : List Nat) (h : ∀ x ∈ xs, x < 256) : wd xs < 2 ^ (8 * xs.length) := by
  induction xs with
  | nil => simp [wd]
  | cons x xs ih =>
    have h1 := h x (by simp)
    have h2 := ih fun y hy => h y (by simp [hy])
    rw [wd, List.length_cons, Nat.mul_add 8, Nat.pow_add]
    have : 2 ^ (8 * xs.length) * 2 ^ (8 * 1) = 256 * 2 ^ (8 * xs.length) := by rw [Nat.mul_comm]
    omega
theorem wd_take {xs : List Nat} {j : Nat} (h : j < xs.length) : wd (xs.take (j + 1)) = wd (xs.take j) + xs.getD j 0 * 2 ^ (8 * j) := by
  rw [List.take_add_one, List.getElem?_eq_getElem h, Option.toList_some, wd_app, List.length_take, Nat.min_eq_left (by omega), List.getD_eq_getElem?_getD, List.getElem?_eq_getElem h]
  rfl
theorem wd_take_lt {xs : List Nat} {j : Nat} (h : ∀ x ∈ xs, x < 256) (hj : j ≤ xs.length) : wd (xs.take j) < 2 ^ (8 * j) := by
  have := wd_lt (xs.take j) fun x hx => h x (List.mem_of_mem_take hx)
  rwa [List.length_take, Nat.min_eq_left hj] at this
/-- Do the bytes make a word of the kind? -/
def wdB (k : Int) (xs : List Nat) : Bool := decide (szK k ≠ 0 ∧ xs.length = szK k)
def wdW (k : Int) (xs : List Nat) : Nat := if wdB k xs then wd xs else 0
theorem wdW_no {k : Int} {xs : List Nat} (h : wdB k xs = false) : wdW k xs = 0 := by
  unfold wdW
  rw [h]
  rfl
theorem wdW_yes {k : Int} {xs : List Nat} (h : wdB k xs = true) : wdW k xs = wd xs := by
  unfold wdW
  rw [if_pos h]
theorem or_part {a v j : Nat} (ha : a < 2 ^ (8 * j)) (hv : v < 256) (hj : j ≤ 7) : bits BinOp.or IntKind.u64 (a : Int) (IntKind.u64.wrap ((v : Int) * 2 ^ (8 * j))) = ((a + v * 2 ^ (8 * j) : Nat) : Int) := by
  have h1 : 2 ^ (8 * j) ≤ 2 ^ 56 := Nat.pow_le_pow_right (by decide) (by omega)
  have h2 : v * 2 ^ (8 * j) ≤ 255 * 2 ^ 56 := Nat.mul_le_mul (by omega) h1
  have h3 : (v : Int) * 2 ^ (8 * j) = ((v * 2 ^ (8 * j) : Nat) : Int) := by
    rw [Int.natCast_mul, Int.natCast_pow]
    rfl
  have h4 : IntKind.u64.wrap ((v * 2 ^ (8 * j) : Nat) : Int) = ((v * 2 ^ (8 * j) : Nat) : Int) := by
    rw [IntKind.wrap_u64]
    omega
  rw [h3, h4, bits_or_u64_nat _ _ (by omega) (by omega), Nat.or_comm, Nat.mul_comm v, ← Nat.two_pow_add_eq_or_of_lt ha, Nat.add_comm]
def WdRel (xs : List Nat) (w : World) (s7 s22 : Value) (wr : World) : Prop := ∃ j : Nat, j ≤ xs.length ∧ s22 = .int .i64 j ∧ s7 = .int .u64 ((wd (xs.take j) : Nat) : Int) ∧ Plus w wr

set_option maxRecDepth 100000 in
set_option maxHeartbeats 2000000 in
theorem word_c (k : Int) (A : Option Addr) (xs : List Nat) (n c : Nat) (w : World) (h : Hid (Ar .u8 256 w A xs n c)) : Calls Try.prog 14 #[.int .i64 k, .slice A n c] w fun e w' => e = .returned (.tuple #[.int .u64 ((wdW k xs : Nat) : Int), .bool (wdB k xs)]) ∧ Plus w w' := by
  by_cases hg : szK k ≠ 0 ∧ xs.length = szK k
  · have hb : wdB k xs = true := decide_eq_true hg
    rw [hb, wdW_yes hb]
    have h8 := szK_le k
    obtain ⟨hg0, hg1⟩ := hg
    rw [← hg1, ← h.out.len] at hg0 h8
    have hsz := fun w' => size_s (k := k) (s := (n : Int)) w' (by rw [← hg1, h.out.len])
    have hn0 : ((n : Int) == 0) = false := by simp [hg0]
    have HN := Lib.hid h.out.len
    have hn8 : (n : Int) ≤ 8 := by omega
    clear hg1 hb hg0 h8
    go_enter Try.func14, Try.ntmps14
    go_wp2_with fail
    with_reducible refine (hsz _).mono ?_
    rintro e w1 ⟨rfl, ⟨x1, rfl⟩⟩
    go_wp2_with fail
    go_loopw [7, 8, 9, 22] (fun s7 s8 s9 s22 wr => WdRel xs w s7 s22 wr) (fun _ _ _ s22 _ => ((n : Int) - intOf s22).toNat)
    case atStart => exact ⟨0, by omega, rfl, rfl, (by repeat' (first | exact Plus.refl _ | refine Plus.alloc ?_ _ | refine Plus.plus ?_ _ | refine Plus.drew ?_ | refine Plus.drewN ?_ _))⟩
    case round =>
      obtain ⟨j, hj, rfl, rfl, hP⟩ := hrel
      rw [← HN.out] at hj
      obtain ⟨x2, rfl⟩ := hP
      by_cases hlt : j < n
      · obtain ⟨g, o, hA, hgl, hat⟩ := (h.out.rd).at_ (j := j) (by rw [← HN.out]; exact hlt)
        subst hA
        have hc := (cell?_plus w x2 g (o + j) hgl).trans (hat j (by rw [← HN.out]; exact hlt))
        obtain ⟨v, hv⟩ : ∃ v, xs.getD j 0 = v := ⟨_, rfl⟩
        rw [hv] at hc
        have hvb : (v : Int) < 256 := by
          have := h.out.getD_lt (by decide) j
          omega
        obtain ⟨a, ha⟩ : ∃ a, wd (xs.take j) = a := ⟨_, rfl⟩
        rw [ha]
        have HV := Lib.hid hv
        have HA := Lib.hid ha
        have HAT := Lib.hid hat
        clear hv ha hat
        have hj8 : (j : Int) ≤ 7 := by omega
        go_wp2_with fail
        refine ⟨⟨j + 1, by rw [← HN.out]; omega, by rw [show ((j + 1 : Nat) : Int) = (j : Int) + 1 by omega], ?_, Plus.is _⟩, by simp [intOf]; omega⟩
        have hl : j < xs.length := by rw [← HN.out]; exact hlt
        have ht := wd_take_lt h.out.bd (Nat.le_of_lt hl)
        rw [HA.out] at ht
        rw [wd_take hl, HA.out, HV.out, or_part ht (by omega) (by omega)]
      · obtain rfl : j = n := by omega
        rw [HN.out, List.take_length]
        go_wp2_with fail
        go_ret2
        exact ⟨rfl, Plus.is _⟩
  · have hb : wdB k xs = false := decide_eq_false hg
    rw [hb, wdW_no hb]
    have hsz := size_c k
    by_cases h0 : szK k = 0
    · rw [h0] at hsz
      go_enter Try.func14, Try.ntmps14
      go_wp2_with fail
      with_reducible refine (hsz _).mono ?_
      rintro e w1 ⟨rfl, ⟨x1, rfl⟩⟩
      go_wp2_with fail
      go_ret2
      exact ⟨rfl, (by repeat' (first | exact Plus.refl _ | refine Plus.alloc ?_ _ | refine Plus.plus ?_ _ | refine Plus.drew ?_ | refine Plus.drewN ?_ _))⟩
    · have hn : n ≠ szK k := by
        intro e
        exact hg ⟨h0, by rw [← e, h.out.len]⟩
      obtain ⟨s, hs⟩ : ∃ s, szK k = s := ⟨_, rfl⟩
      rw [hs] at hsz h0 hn
      have hn1 : ((s : Int) == 0) = false := by simp [h0]
      have hn2 : ((n : Int) == (s : Int)) = false := by simp; omega
      go_enter Try.func14, Try.ntmps14
      go_wp2_with fail
      with_reducible refine (hsz _).mono ?_
      rintro e w1 ⟨rfl, ⟨x1, rfl⟩⟩
      go_wp2_with fail
      all_goals
        go_ret2
        exact ⟨rfl, (by repeat' (first | exact Plus.refl _ | refine Plus.alloc ?_ _ | refine Plus.plus ?_ _ | refine Plus.drew ?_ | refine Plus.drewN ?_ _))⟩
end Go.Proofs.Ytjojkogmbgppcaa
