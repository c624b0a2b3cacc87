/- The document's sizes, masks and changes. -/
import Derived.WalkKit
import Derived.WalkSpells
import Derived.WalkLawsBesides
import Derived.Handy
import Derived.Deep.RegionHeld3
import Derived.Deep.DeepCutAuto
import Derived.Deep.QuietTactic
import Derived.BigQuiet
import Derived.Lib.Hide
import Derived.KernelRfl
import Derived.WalkMore
import Derived.Deep.LoopGhost
import Derived.Test.YtjojkogmbgppcaaC3
namespace Go.Proofs.Ytjojkogmbgppcaa
open Go.RowKit


set_option maxRecDepth 100000 in
theorem refSize_c (k : Int) (w : World) : Calls Try.prog 13 #[.int .i64 k] w fun e w' => e = .returned (.int .i64 ((szK k : Nat) : Int)) ∧ Plus w w' := by
  by_cases h1 : k < 1
  · have h0 : szK k = 0 := if_neg (by omega)
    rw [h0]
    go_enter Try.func13, Try.ntmps13
    go_wp2_with fail
    go_ret
    exact ⟨rfl, (by repeat' (first | exact Plus.refl _ | refine Plus.alloc ?_ _ | refine Plus.plus ?_ _ | refine Plus.drew ?_ | refine Plus.drewN ?_ _))⟩
  · by_cases h8 : 8 < k
    · have h0 : szK k = 0 := if_neg (by omega)
      rw [h0]
      go_enter Try.func13, Try.ntmps13
      go_wp2_with fail
      go_ret
      exact ⟨rfl, (by repeat' (first | exact Plus.refl _ | refine Plus.alloc ?_ _ | refine Plus.plus ?_ _ | refine Plus.drew ?_ | refine Plus.drewN ?_ _))⟩
    · have hk : k = 1 ∨ k = 2 ∨ k = 3 ∨ k = 4 ∨ k = 5 ∨ k = 6 ∨ k = 7 ∨ k = 8 := by omega
      rcases hk with rfl | rfl | rfl | rfl | rfl | rfl | rfl | rfl
      all_goals
        go_enter Try.func13, Try.ntmps13
        go_wp2_with fail
        go_ret
        exact ⟨rfl, (by repeat' (first | exact Plus.refl _ | refine Plus.alloc ?_ _ | refine Plus.plus ?_ _ | refine Plus.drew ?_ | refine Plus.drewN ?_ _))⟩

set_option maxRecDepth 100000 in
theorem refMask_c (s x : Nat) (w : World) (hs : s = 0 ∨ s = 1 ∨ s = 2 ∨ s = 4 ∨ s = 8) (hx : x < 18446744073709551616) : Calls Try.prog 42 #[.int .i64 (s : Int), .int .u64 (x : Int)] w fun e w' => e = .returned (.int .u64 ((msk s x : Nat) : Int)) ∧ Plus w w' := by
  rcases hs with rfl | rfl | rfl | rfl | rfl
  all_goals
    go_enter Try.func42, Try.ntmps42
    go_wp2_with fail
    go_ret
    refine ⟨?_, (by repeat' (first | exact Plus.refl _ | refine Plus.alloc ?_ _ | refine Plus.plus ?_ _ | refine Plus.drew ?_ | refine Plus.drewN ?_ _))⟩
    unfold msk
    first | rfl | (rw [Nat.mul_zero, Nat.pow_zero, Nat.mod_one]; rfl) | (rw [Nat.mod_eq_of_lt (by exact hx)]; rfl)

/-- A change, of words of so many bytes. -/
def rcB (s : Nat) (op : Int) : Bool := decide (s ≠ 0 ∧ 1 ≤ op ∧ op ≤ 6)
def rcW (s : Nat) (op : Int) (a b : Nat) : Nat := if rcB s op then msk s (opW op a b) else 0
theorem rcW_no {s : Nat} {op : Int} {a b : Nat} (h : rcB s op = false) : rcW s op a b = 0 := by
  unfold rcW
  rw [h]
  rfl
theorem rcW_yes {s : Nat} {op : Int} {a b : Nat} (h : rcB s op = true) : rcW s op a b = msk s (opW op a b) := by
  unfold rcW
  rw [if_pos h]
set_option maxRecDepth 100000 in
set_option maxHeartbeats 2000000 in
theorem refChange_c (s : Nat) (op : Int) (a b : Nat) (w : World) (hs : s = 0 ∨ s = 1 ∨ s = 2 ∨ s = 4 ∨ s = 8) (ha : a < 18446744073709551616) (hb : b < 18446744073709551616) :
    Calls Try.prog 34 #[.int .i64 (s : Int), .int .i64 op, .int .u64 (a : Int), .int .u64 (b : Int)] w fun e w' => e = .returned (.tuple #[.int .u64 ((rcW s op a b : Nat) : Int), .bool (rcB s op)]) ∧ Plus w w' := by
  have hop : op = 1 ∨ op = 2 ∨ op = 3 ∨ op = 4 ∨ op = 5 ∨ op = 6 ∨ ((op == 1) = false ∧ (op == 2) = false ∧ (op == 3) = false ∧ (op == 4) = false ∧ (op == 5) = false ∧ (op == 6) = false) := by
    simp only [beq_eq_false_iff_ne]
    omega
  rcases hop with rfl | rfl | rfl | rfl | rfl | rfl | ⟨h1, h2, h3, h4, h5, h6⟩
  · by_cases h0 : s = 0
    · subst h0
      have e0 : rcB 0 1 = false := by decide
      rw [rcW_no e0, e0]
      go_enter Try.func34, Try.ntmps34
      go_wp2_with fail
      go_ret2
      exact ⟨rfl, (by repeat' (first | exact Plus.refl _ | refine Plus.alloc ?_ _ | refine Plus.plus ?_ _ | refine Plus.drew ?_ | refine Plus.drewN ?_ _))⟩
    have e0 : rcB s 1 = true := by simp [rcB, h0]
    rw [rcW_yes e0, e0]
    have hx : opW 1 a b < 18446744073709551616 := opW_lt ha hb
    have hv : IntKind.u64.wrap ((a : Int) + (b : Int)) = ((opW 1 a b : Nat) : Int) := by rw [opW_1]; exact add_u64 a b
    have hs0 : ((s : Int) == 0) = false := by simp [h0]
    go_enter Try.func34, Try.ntmps34
    go_wp2_with fail
    with_reducible refine (refMask_c s (opW 1 a b) _ hs hx).mono ?_
    rintro e w1 ⟨rfl, ⟨x2, rfl⟩⟩
    go_wp2_with fail
    go_ret2
    exact ⟨rfl, (by repeat' (first | exact Plus.refl _ | refine Plus.alloc ?_ _ | refine Plus.plus ?_ _ | refine Plus.drew ?_ | refine Plus.drewN ?_ _))⟩
  · by_cases h0 : s = 0
    · subst h0
      have e0 : rcB 0 2 = false := by decide
      rw [rcW_no e0, e0]
      go_enter Try.func34, Try.ntmps34
      go_wp2_with fail
      go_ret2
      exact ⟨rfl, (by repeat' (first | exact Plus.refl _ | refine Plus.alloc ?_ _ | refine Plus.plus ?_ _ | refine Plus.drew ?_ | refine Plus.drewN ?_ _))⟩
    have e0 : rcB s 2 = true := by simp [rcB, h0]
    rw [rcW_yes e0, e0]
    have hx : opW 2 a b < 18446744073709551616 := opW_lt ha hb
    have hv : bits BinOp.and IntKind.u64 (a : Int) (b : Int) = ((opW 2 a b : Nat) : Int) := by rw [opW_2]; exact bits_and_u64_nat a b ha hb
    have hs0 : ((s : Int) == 0) = false := by simp [h0]
    go_enter Try.func34, Try.ntmps34
    go_wp2_with fail
    with_reducible refine (refMask_c s (opW 2 a b) _ hs hx).mono ?_
    rintro e w1 ⟨rfl, ⟨x2, rfl⟩⟩
    go_wp2_with fail
    go_ret2
    exact ⟨rfl, (by repeat' (first | exact Plus.refl _ | refine Plus.alloc ?_ _ | refine Plus.plus ?_ _ | refine Plus.drew ?_ | refine Plus.drewN ?_ _))⟩
  · by_cases h0 : s = 0
    · subst h0
      have e0 : rcB 0 3 = false := by decide
      rw [rcW_no e0, e0]
      go_enter Try.func34, Try.ntmps34
      go_wp2_with fail
      go_ret2
      exact ⟨rfl, (by repeat' (first | exact Plus.refl _ | refine Plus.alloc ?_ _ | refine Plus.plus ?_ _ | refine Plus.drew ?_ | refine Plus.drewN ?_ _))⟩
    have e0 : rcB s 3 = true := by simp [rcB, h0]
    rw [rcW_yes e0, e0]
    have hx : opW 3 a b < 18446744073709551616 := opW_lt ha hb
    have hv : bits BinOp.or IntKind.u64 (a : Int) (b : Int) = ((opW 3 a b : Nat) : Int) := by rw [opW_3]; exact bits_or_u64_nat a b ha hb
    have hs0 : ((s : Int) == 0) = false := by simp [h0]
    go_enter Try.func34, Try.ntmps34
    go_wp2_with fail
    with_reducible refine (refMask_c s (opW 3 a b) _ hs hx).mono ?_
    rintro e w1 ⟨rfl, ⟨x2, rfl⟩⟩
    go_wp2_with fail
    go_ret2
    exact ⟨rfl, (by repeat' (first | exact Plus.refl _ | refine Plus.alloc ?_ _ | refine Plus.plus ?_ _ | refine Plus.drew ?_ | refine Plus.drewN ?_ _))⟩
  · by_cases h0 : s = 0
    · subst h0
      have e0 : rcB 0 4 = false := by decide
      rw [rcW_no e0, e0]
      go_enter Try.func34, Try.ntmps34
      go_wp2_with fail
      go_ret2
      exact ⟨rfl, (by repeat' (first | exact Plus.refl _ | refine Plus.alloc ?_ _ | refine Plus.plus ?_ _ | refine Plus.drew ?_ | refine Plus.drewN ?_ _))⟩
    have e0 : rcB s 4 = true := by simp [rcB, h0]
    rw [rcW_yes e0, e0]
    have hx : opW 4 a b < 18446744073709551616 := opW_lt ha hb
    have hv : IntKind.u64.wrap ((a : Int) - (b : Int)) = ((opW 4 a b : Nat) : Int) := by rw [opW_4]; exact sub_u64 hb
    have hs0 : ((s : Int) == 0) = false := by simp [h0]
    go_enter Try.func34, Try.ntmps34
    go_wp2_with fail
    with_reducible refine (refMask_c s (opW 4 a b) _ hs hx).mono ?_
    rintro e w1 ⟨rfl, ⟨x2, rfl⟩⟩
    go_wp2_with fail
    go_ret2
    exact ⟨rfl, (by repeat' (first | exact Plus.refl _ | refine Plus.alloc ?_ _ | refine Plus.plus ?_ _ | refine Plus.drew ?_ | refine Plus.drewN ?_ _))⟩
  · by_cases h0 : s = 0
    · subst h0
      have e0 : rcB 0 5 = false := by decide
      rw [rcW_no e0, e0]
      go_enter Try.func34, Try.ntmps34
      go_wp2_with fail
      go_ret2
      exact ⟨rfl, (by repeat' (first | exact Plus.refl _ | refine Plus.alloc ?_ _ | refine Plus.plus ?_ _ | refine Plus.drew ?_ | refine Plus.drewN ?_ _))⟩
    have e0 : rcB s 5 = true := by simp [rcB, h0]
    rw [rcW_yes e0, e0]
    have hx : opW 5 a b < 18446744073709551616 := opW_lt ha hb
    have hv : bits BinOp.xor IntKind.u64 (a : Int) (b : Int) = ((opW 5 a b : Nat) : Int) := by rw [opW_5]; exact bits_xor_u64_nat a b ha hb
    have hs0 : ((s : Int) == 0) = false := by simp [h0]
    go_enter Try.func34, Try.ntmps34
    go_wp2_with fail
    with_reducible refine (refMask_c s (opW 5 a b) _ hs hx).mono ?_
    rintro e w1 ⟨rfl, ⟨x2, rfl⟩⟩
    go_wp2_with fail
    go_ret2
    exact ⟨rfl, (by repeat' (first | exact Plus.refl _ | refine Plus.alloc ?_ _ | refine Plus.plus ?_ _ | refine Plus.drew ?_ | refine Plus.drewN ?_ _))⟩
  · by_cases h0 : s = 0
    · subst h0
      have e0 : rcB 0 6 = false := by decide
      rw [rcW_no e0, e0]
      go_enter Try.func34, Try.ntmps34
      go_wp2_with fail
      go_ret2
      exact ⟨rfl, (by repeat' (first | exact Plus.refl _ | refine Plus.alloc ?_ _ | refine Plus.plus ?_ _ | refine Plus.drew ?_ | refine Plus.drewN ?_ _))⟩
    have e0 : rcB s 6 = true := by simp [rcB, h0]
    rw [rcW_yes e0, e0]; rw [opW_6]
    have hs0 : ((s : Int) == 0) = false := by simp [h0]
    go_enter Try.func34, Try.ntmps34
    go_wp2_with fail
    with_reducible refine (refMask_c s b _ hs hb).mono ?_
    rintro e w1 ⟨rfl, ⟨x2, rfl⟩⟩
    go_wp2_with fail
    go_ret2
    exact ⟨rfl, (by repeat' (first | exact Plus.refl _ | refine Plus.alloc ?_ _ | refine Plus.plus ?_ _ | refine Plus.drew ?_ | refine Plus.drewN ?_ _))⟩
  · have h0 : rcB s op = false := by
      simp only [beq_eq_false_iff_ne] at h1 h2 h3 h4 h5 h6
      unfold rcB
      rw [decide_eq_false_iff_not]
      omega
    rw [rcW_no h0, h0]
    go_enter Try.func34, Try.ntmps34
    go_wp2_with fail
    go_ret2
    exact ⟨rfl, (by repeat' (first | exact Plus.refl _ | refine Plus.alloc ?_ _ | refine Plus.plus ?_ _ | refine Plus.drew ?_ | refine Plus.drewN ?_ _))⟩

theorem rc_ch (k op : Int) (a b : Nat) : rcW (szK k) op a b = chW k op a b := rfl
theorem rcB_ch (k op : Int) : rcB (szK k) op = chB k op := rfl

/-! The contracts, each with its answer named. -/
def ChN (k op : Int) (a b r : Nat) (ok : Bool) : Prop := chW k op a b = r ∧ chB k op = ok ∧ a < 18446744073709551616 ∧ b < 18446744073709551616
theorem change_n {k op : Int} {a b r : Nat} {ok : Bool} (h : Hid (ChN k op a b r ok)) (w : World) : Calls Try.prog 33 #[.int .i64 k, .int .i64 op, .int .u64 (a : Int), .int .u64 (b : Int)] w fun e w' => e = .returned (.tuple #[.int .u64 (r : Int), .bool ok]) ∧ Plus w w' := by
  obtain ⟨rfl, rfl, h3, h4⟩ := h.out
  exact change_c k op a b w h3 h4
def SzN (k : Int) (s : Nat) : Prop := szK k = s
theorem size_n {k : Int} {s : Nat} (h : Hid (SzN k s)) (w : World) : Calls Try.prog 16 #[.int .i64 k] w fun e w' => e = .returned (.int .i64 (s : Int)) ∧ Plus w w' := by
  obtain rfl := h.out
  exact size_c k w
theorem refSize_n {k : Int} {s : Nat} (h : Hid (SzN k s)) (w : World) : Calls Try.prog 13 #[.int .i64 k] w fun e w' => e = .returned (.int .i64 (s : Int)) ∧ Plus w w' := by
  obtain rfl := h.out
  exact refSize_c k w
def RcN (s : Nat) (op : Int) (a b r : Nat) (ok : Bool) : Prop := rcW s op a b = r ∧ rcB s op = ok ∧ (s = 0 ∨ s = 1 ∨ s = 2 ∨ s = 4 ∨ s = 8) ∧ a < 18446744073709551616 ∧ b < 18446744073709551616
theorem refChange_n {s : Nat} {op : Int} {a b r : Nat} {ok : Bool} (h : Hid (RcN s op a b r ok)) (w : World) : Calls Try.prog 34 #[.int .i64 (s : Int), .int .i64 op, .int .u64 (a : Int), .int .u64 (b : Int)] w fun e w' => e = .returned (.tuple #[.int .u64 (r : Int), .bool ok]) ∧ Plus w w' := by
  obtain ⟨rfl, rfl, h2, h3, h4⟩ := h.out
  exact refChange_c s op a b w h2 h3 h4
end Go.Proofs.Ytjojkogmbgppcaa
