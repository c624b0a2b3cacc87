/- Cut words; which kinds are big. -/
import Derived.WalkKit
import Derived.WalkSpells
import Derived.WalkLawsBesides
import Derived.Handy
import Derived.Deep.RegionHeld3
import Derived.Deep.DeepCutAuto
import Derived.Deep.QuietTactic
import Derived.BigQuiet
import Derived.Lib.Hide
import Derived.KernelRfl
import Derived.WalkMore
import Derived.Deep.LoopGhost
import Derived.WalkSmall
import Derived.Test.YtjojkogmbgppcaaC2
import Derived.Test.YtjojkogmbgppcaaW
namespace Go.Proofs.Ytjojkogmbgppcaa
open Go.RowKit


theorem szK_cases (k : Int) : szK k = 0 ∨ szK k = 1 ∨ szK k = 2 ∨ szK k = 4 ∨ szK k = 8 := by
  unfold szK
  split
  · rename_i h
    have h8 : k = 1 ∨ k = 2 ∨ k = 3 ∨ k = 4 ∨ k = 5 ∨ k = 6 ∨ k = 7 ∨ k = 8 := by omega
    rcases h8 with rfl | rfl | rfl | rfl | rfl | rfl | rfl | rfl <;> decide
  · exact .inl rfl
theorem size_s {k s : Int} (w : World) (h : ((szK k : Nat) : Int) = s) : Calls Try.prog 16 #[.int .i64 k] w fun e w' => e = .returned (.int .i64 s) ∧ Plus w w' := h ▸ size_c k w

/-- The remainder of a word. -/
def msk (s w : Nat) : Nat := w % 2 ^ (8 * s)

theorem msk_lt {s x : Nat} (hs : s ≤ 8) : msk s x < 18446744073709551616 := by
  unfold msk
  have h1 : x % 2 ^ (8 * s) < 2 ^ (8 * s) := Nat.mod_lt _ (Nat.two_pow_pos _)
  have h2 : 2 ^ (8 * s) ≤ 2 ^ 64 := Nat.pow_le_pow_right (by decide) (by omega)
  exact Nat.lt_of_lt_of_le h1 (Nat.le_trans h2 (by decide))
theorem szK_le (k : Int) : szK k ≤ 8 := by
  rcases szK_cases k with hs | hs | hs | hs | hs <;> rw [hs] <;> decide
/-- 'w & (2^(8 s) - 1)'. -/
theorem and_msk {s x : Nat} (hs : s ≤ 8) (hx : x < 18446744073709551616) : bits BinOp.and IntKind.u64 (x : Int) ((2 ^ (8 * s) - 1 : Nat) : Int) = ((msk s x : Nat) : Int) := by
  have h2 : 2 ^ (8 * s) ≤ 2 ^ 64 := Nat.pow_le_pow_right (by decide) (by omega)
  rw [bits_and_u64_nat x _ hx (by omega), Nat.and_two_pow_sub_one_eq_mod]
  rfl

set_option maxRecDepth 100000 in
theorem cut_c (k : Int) (x : Nat) (w : World) (hx : x < 18446744073709551616) :
    Calls Try.prog 39 #[.int .i64 k, .int .u64 (x : Int)] w fun e w' => e = .returned (.int .u64 ((msk (szK k) x : Nat) : Int)) ∧ Plus w w' := by
  rcases szK_cases k with hs | hs | hs | hs | hs
  all_goals
    have h := size_s (s := ((szK k : Nat) : Int)) (k := k) w rfl
    rw [hs] at h ⊢
    go_enter Try.func39, Try.ntmps39
    go_wp2_with fail
    with_reducible refine h.mono ?_
    rintro e w1 ⟨rfl, ⟨x1, rfl⟩⟩
    go_wp2_with fail
    go_ret
    refine ⟨?_, (by repeat' (first | exact Plus.refl _ | refine Plus.alloc ?_ _ | refine Plus.plus ?_ _ | refine Plus.drew ?_ | refine Plus.drewN ?_ _))⟩
    rw [← and_msk (by decide) hx]
    rfl

/-- The kinds of BigInts. -/
def bigK (k : Int) : Bool := k == 7 || k == 8
set_option maxRecDepth 100000 in
theorem isBig_c (k : Int) (w : World) : Calls Try.prog 17 #[.int .i64 k] w fun e w' => e = .returned (.bool (bigK k)) ∧ Plus w w' := by
  by_cases h7 : k = 7
  · subst h7
    go_enter Try.func17, Try.ntmps17
    go_wp2_with fail
    go_ret
    exact ⟨rfl, (by repeat' (first | exact Plus.refl _ | refine Plus.alloc ?_ _ | refine Plus.plus ?_ _ | refine Plus.drew ?_ | refine Plus.drewN ?_ _))⟩
  · have h : (k == 7) = false := by simp [h7]
    have hb : bigK k = (k == 8) := by simp [bigK, h7]
    rw [hb]
    go_enter Try.func17, Try.ntmps17
    go_wp2_with fail
    go_ret
    exact ⟨by simp, (by repeat' (first | exact Plus.refl _ | refine Plus.alloc ?_ _ | refine Plus.plus ?_ _ | refine Plus.drew ?_ | refine Plus.drewN ?_ _))⟩

/-- What an operation makes of two words, before it is cut. -/
def opW (op : Int) (a b : Nat) : Nat :=
  if op = 1 then (a + b) % 18446744073709551616 else if op = 2 then a &&& b else if op = 3 then a ||| b
  else if op = 4 then (a + 18446744073709551616 - b) % 18446744073709551616 else if op = 5 then a ^^^ b else b
section
variable (a b : Nat)
theorem opW_1 : opW 1 a b = (a + b) % 18446744073709551616 := by unfold opW; rw [if_pos (by decide)]
theorem opW_2 : opW 2 a b = a &&& b := by unfold opW; rw [if_neg (by decide), if_pos (by decide)]
theorem opW_3 : opW 3 a b = a ||| b := by unfold opW; rw [if_neg (by decide), if_neg (by decide), if_pos (by decide)]
theorem opW_4 : opW 4 a b = (a + 18446744073709551616 - b) % 18446744073709551616 := by unfold opW; rw [if_neg (by decide), if_neg (by decide), if_neg (by decide), if_pos (by decide)]
theorem opW_5 : opW 5 a b = a ^^^ b := by unfold opW; rw [if_neg (by decide), if_neg (by decide), if_neg (by decide), if_neg (by decide), if_pos (by decide)]
theorem opW_6 : opW 6 a b = b := by unfold opW; rw [if_neg (by decide), if_neg (by decide), if_neg (by decide), if_neg (by decide), if_neg (by decide)]
end
theorem opW_lt {op : Int} {a b : Nat} (ha : a < 18446744073709551616) (hb : b < 18446744073709551616) : opW op a b < 18446744073709551616 := by
  unfold opW
  split
  · omega
  split
  · exact Nat.and_lt_two_pow (n := 64) _ hb
  split
  · exact Nat.or_lt_two_pow (n := 64) ha hb
  split
  · omega
  split
  · exact Nat.xor_lt_two_pow (n := 64) ha hb
  · exact hb
/-- Is there such an operation, and such a kind? -/
def chB (k op : Int) : Bool := decide (szK k ≠ 0 ∧ 1 ≤ op ∧ op ≤ 6)
/-- The word that the operation makes. -/
def chW (k op : Int) (a b : Nat) : Nat := if chB k op then msk (szK k) (opW op a b) else 0
theorem chW_no {k op : Int} {a b : Nat} (h : chB k op = false) : chW k op a b = 0 := by
  unfold chW
  rw [h]
  rfl
theorem chW_yes {k op : Int} {a b : Nat} (h : chB k op = true) : chW k op a b = msk (szK k) (opW op a b) := by
  unfold chW
  rw [if_pos h]
theorem add_u64 (a b : Nat) : IntKind.u64.wrap ((a : Int) + (b : Int)) = (((a + b) % 18446744073709551616 : Nat) : Int) := by
  rw [IntKind.wrap_u64]
  omega
theorem sub_u64 {a b : Nat} (hb : b < 18446744073709551616) : IntKind.u64.wrap ((a : Int) - (b : Int)) = (((a + 18446744073709551616 - b) % 18446744073709551616 : Nat) : Int) := by
  rw [IntKind.wrap_u64]
  omega

set_option maxRecDepth 100000 in
set_option maxHeartbeats 2000000 in
theorem change_c (k op : Int) (a b : Nat) (w : World) (ha : a < 18446744073709551616) (hb : b < 18446744073709551616) :
    Calls Try.prog 33 #[.int .i64 k, .int .i64 op, .int .u64 (a : Int), .int .u64 (b : Int)] w fun e w' => e = .returned (.tuple #[.int .u64 ((chW k op a b : Nat) : Int), .bool (chB k op)]) ∧ Plus w w' := by
  by_cases hs : szK k = 0
  · have h0 : chB k op = false := by simp [chB, hs]
    rw [chW_no h0, h0]
    have h := size_s (s := ((szK k : Nat) : Int)) (k := k) w rfl
    rw [hs] at h
    go_enter Try.func33, Try.ntmps33
    go_wp2_with fail
    with_reducible refine h.mono ?_
    rintro e w1 ⟨rfl, ⟨x1, rfl⟩⟩
    go_wp2_with fail
    go_ret2
    exact ⟨rfl, (by repeat' (first | exact Plus.refl _ | refine Plus.alloc ?_ _ | refine Plus.plus ?_ _ | refine Plus.drew ?_ | refine Plus.drewN ?_ _))⟩
  · have hsz : (szK k : Int) ≠ 0 := by omega
    have hsz' : (((szK k : Nat) : Int) == 0) = false := by simp [hs]
    have hop : op = 1 ∨ op = 2 ∨ op = 3 ∨ op = 4 ∨ op = 5 ∨ op = 6 ∨ ((op == 1) = false ∧ (op == 2) = false ∧ (op == 3) = false ∧ (op == 4) = false ∧ (op == 5) = false ∧ (op == 6) = false) := by
      simp only [beq_eq_false_iff_ne]
      omega
    rcases hop with rfl | rfl | rfl | rfl | rfl | rfl | ⟨h1, h2, h3, h4, h5, h6⟩
    · have h0 : chB k 1 = true := by simp [chB, hs]
      rw [chW_yes h0, h0]
      have hx : opW 1 a b < 18446744073709551616 := opW_lt ha hb
      have hv : IntKind.u64.wrap ((a : Int) + (b : Int)) = ((opW 1 a b : Nat) : Int) := by rw [opW_1]; exact add_u64 a b
      go_enter Try.func33, Try.ntmps33
      go_wp2_with fail
      with_reducible refine (size_c k _).mono ?_
      rintro e w1 ⟨rfl, ⟨x1, rfl⟩⟩
      go_wp2_with fail
      with_reducible refine (cut_c k (opW 1 a b) _ hx).mono ?_
      rintro e w1 ⟨rfl, ⟨x2, rfl⟩⟩
      go_wp2_with fail
      go_ret2
      exact ⟨rfl, (by repeat' (first | exact Plus.refl _ | refine Plus.alloc ?_ _ | refine Plus.plus ?_ _ | refine Plus.drew ?_ | refine Plus.drewN ?_ _))⟩
    · have h0 : chB k 2 = true := by simp [chB, hs]
      rw [chW_yes h0, h0]
      have hx : opW 2 a b < 18446744073709551616 := opW_lt ha hb
      have hv : bits BinOp.and IntKind.u64 (a : Int) (b : Int) = ((opW 2 a b : Nat) : Int) := by rw [opW_2]; exact bits_and_u64_nat a b ha hb
      go_enter Try.func33, Try.ntmps33
      go_wp2_with fail
      with_reducible refine (size_c k _).mono ?_
      rintro e w1 ⟨rfl, ⟨x1, rfl⟩⟩
      go_wp2_with fail
      with_reducible refine (cut_c k (opW 2 a b) _ hx).mono ?_
      rintro e w1 ⟨rfl, ⟨x2, rfl⟩⟩
      go_wp2_with fail
      go_ret2
      exact ⟨rfl, (by repeat' (first | exact Plus.refl _ | refine Plus.alloc ?_ _ | refine Plus.plus ?_ _ | refine Plus.drew ?_ | refine Plus.drewN ?_ _))⟩
    · have h0 : chB k 3 = true := by simp [chB, hs]
      rw [chW_yes h0, h0]
      have hx : opW 3 a b < 18446744073709551616 := opW_lt ha hb
      have hv : bits BinOp.or IntKind.u64 (a : Int) (b : Int) = ((opW 3 a b : Nat) : Int) := by rw [opW_3]; exact bits_or_u64_nat a b ha hb
      go_enter Try.func33, Try.ntmps33
      go_wp2_with fail
      with_reducible refine (size_c k _).mono ?_
      rintro e w1 ⟨rfl, ⟨x1, rfl⟩⟩
      go_wp2_with fail
      with_reducible refine (cut_c k (opW 3 a b) _ hx).mono ?_
      rintro e w1 ⟨rfl, ⟨x2, rfl⟩⟩
      go_wp2_with fail
      go_ret2
      exact ⟨rfl, (by repeat' (first | exact Plus.refl _ | refine Plus.alloc ?_ _ | refine Plus.plus ?_ _ | refine Plus.drew ?_ | refine Plus.drewN ?_ _))⟩
    · have h0 : chB k 4 = true := by simp [chB, hs]
      rw [chW_yes h0, h0]
      have hx : opW 4 a b < 18446744073709551616 := opW_lt ha hb
      have hv : IntKind.u64.wrap ((a : Int) - (b : Int)) = ((opW 4 a b : Nat) : Int) := by rw [opW_4]; exact sub_u64 hb
      go_enter Try.func33, Try.ntmps33
      go_wp2_with fail
      with_reducible refine (size_c k _).mono ?_
      rintro e w1 ⟨rfl, ⟨x1, rfl⟩⟩
      go_wp2_with fail
      with_reducible refine (cut_c k (opW 4 a b) _ hx).mono ?_
      rintro e w1 ⟨rfl, ⟨x2, rfl⟩⟩
      go_wp2_with fail
      go_ret2
      exact ⟨rfl, (by repeat' (first | exact Plus.refl _ | refine Plus.alloc ?_ _ | refine Plus.plus ?_ _ | refine Plus.drew ?_ | refine Plus.drewN ?_ _))⟩
    · have h0 : chB k 5 = true := by simp [chB, hs]
      rw [chW_yes h0, h0]
      have hx : opW 5 a b < 18446744073709551616 := opW_lt ha hb
      have hv : bits BinOp.xor IntKind.u64 (a : Int) (b : Int) = ((opW 5 a b : Nat) : Int) := by rw [opW_5]; exact bits_xor_u64_nat a b ha hb
      go_enter Try.func33, Try.ntmps33
      go_wp2_with fail
      with_reducible refine (size_c k _).mono ?_
      rintro e w1 ⟨rfl, ⟨x1, rfl⟩⟩
      go_wp2_with fail
      with_reducible refine (cut_c k (opW 5 a b) _ hx).mono ?_
      rintro e w1 ⟨rfl, ⟨x2, rfl⟩⟩
      go_wp2_with fail
      go_ret2
      exact ⟨rfl, (by repeat' (first | exact Plus.refl _ | refine Plus.alloc ?_ _ | refine Plus.plus ?_ _ | refine Plus.drew ?_ | refine Plus.drewN ?_ _))⟩
    · have h0 : chB k 6 = true := by simp [chB, hs]
      rw [chW_yes h0, h0]; rw [opW_6]
      go_enter Try.func33, Try.ntmps33
      go_wp2_with fail
      with_reducible refine (size_c k _).mono ?_
      rintro e w1 ⟨rfl, ⟨x1, rfl⟩⟩
      go_wp2_with fail
      with_reducible refine (cut_c k b _ hb).mono ?_
      rintro e w1 ⟨rfl, ⟨x2, rfl⟩⟩
      go_wp2_with fail
      go_ret2
      exact ⟨rfl, (by repeat' (first | exact Plus.refl _ | refine Plus.alloc ?_ _ | refine Plus.plus ?_ _ | refine Plus.drew ?_ | refine Plus.drewN ?_ _))⟩
    · have h0 : chB k op = false := by
        simp only [beq_eq_false_iff_ne] at h1 h2 h3 h4 h5 h6
        unfold chB
        rw [decide_eq_false_iff_not]
        omega
      rw [chW_no h0, h0]
      go_enter Try.func33, Try.ntmps33
      go_wp2_with fail
      with_reducible refine (size_c k _).mono ?_
      rintro e w1 ⟨rfl, ⟨x1, rfl⟩⟩
      go_wp2_with fail
      go_ret2
      exact ⟨rfl, (by repeat' (first | exact Plus.refl _ | refine Plus.alloc ?_ _ | refine Plus.plus ?_ _ | refine Plus.drew ?_ | refine Plus.drewN ?_ _))⟩
end Go.Proofs.Ytjojkogmbgppcaa
