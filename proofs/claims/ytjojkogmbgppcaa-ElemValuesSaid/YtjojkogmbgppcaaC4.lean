/- A word as a number. -/
import Derived.WalkKit
import Derived.WalkSpells
import Derived.WalkLawsBesides
import Derived.Handy
import Derived.Deep.RegionHeld3
import Derived.Deep.DeepCutAuto
import Derived.Deep.QuietTactic
import Derived.BigQuiet
import Derived.Lib.Hide
import Derived.KernelRfl
import Derived.WalkMore
import Derived.Deep.LoopGhost
import Derived.Test.YtjojkogmbgppcaaC3
namespace Go.Proofs.Ytjojkogmbgppcaa
open Go.RowKit


/-- The number of a word. -/
def toN (k : Int) (x : Nat) : Int :=
  if k = 1 then ((x : Int) + 128) % 256 - 128 else if k = 2 then (x : Int) % 256
  else if k = 3 then ((x : Int) + 32768) % 65536 - 32768 else if k = 4 then (x : Int) % 65536
  else if k = 5 then ((x : Int) + 2147483648) % 4294967296 - 2147483648 else if k = 6 then (x : Int) % 4294967296 else 0
section
variable (x : Nat)
theorem toN_1 : toN 1 x = ((x : Int) + 128) % 256 - 128 := by unfold toN; rw [if_pos (by decide)]
theorem toN_2 : toN 2 x = (x : Int) % 256 := by unfold toN; rw [if_neg (by decide), if_pos (by decide)]
theorem toN_3 : toN 3 x = ((x : Int) + 32768) % 65536 - 32768 := by unfold toN; rw [if_neg (by decide), if_neg (by decide), if_pos (by decide)]
theorem toN_4 : toN 4 x = (x : Int) % 65536 := by unfold toN; rw [if_neg (by decide), if_neg (by decide), if_neg (by decide), if_pos (by decide)]
theorem toN_5 : toN 5 x = ((x : Int) + 2147483648) % 4294967296 - 2147483648 := by unfold toN; rw [if_neg (by decide), if_neg (by decide), if_neg (by decide), if_neg (by decide), if_pos (by decide)]
theorem toN_6 : toN 6 x = (x : Int) % 4294967296 := by unfold toN; rw [if_neg (by decide), if_neg (by decide), if_neg (by decide), if_neg (by decide), if_neg (by decide), if_pos (by decide)]
end
theorem i8_w (x : Nat) : wrap64 (IntKind.i8.wrap (x : Int)) = toN 1 x := by
  rw [toN_1]
  simp [IntKind.wrap, IntKind.bits, IntKind.signed]
  unfold wrap64
  split <;> rename_i h <;> omega
theorem i16_w (x : Nat) : wrap64 (IntKind.i16.wrap (x : Int)) = toN 3 x := by
  rw [toN_3]
  simp [IntKind.wrap, IntKind.bits, IntKind.signed]
  unfold wrap64
  split <;> rename_i h <;> omega
theorem u16_w (x : Nat) : wrap64 (IntKind.u16.wrap (x : Int)) = toN 4 x := by
  rw [toN_4, IntKind.wrap_u16]
  unfold wrap64
  omega
theorem i32_w (x : Nat) : wrap64 (wrap32 (x : Int)) = toN 5 x := by
  rw [toN_5]
  unfold wrap64 wrap32
  omega
theorem toN_no {k : Int} (x : Nat) (h : ¬ (1 ≤ k ∧ k ≤ 6)) : toN k x = 0 := by
  unfold toN
  rw [if_neg (by omega), if_neg (by omega), if_neg (by omega), if_neg (by omega), if_neg (by omega), if_neg (by omega)]

set_option maxRecDepth 100000 in
set_option maxHeartbeats 2000000 in
theorem toNum_c (k : Int) (x : Nat) (w : World) :
    Calls Try.prog 28 #[.int .i64 k, .int .u64 (x : Int)] w fun e w' => e = .returned (.agg #[.int .i64 0, .int .i64 (toN k x)]) ∧ Plus w w' := by
  have hk : k = 1 ∨ k = 2 ∨ k = 3 ∨ k = 4 ∨ k = 5 ∨ k = 6 ∨ ((k == 1) = false ∧ (k == 2) = false ∧ (k == 3) = false ∧ (k == 4) = false ∧ (k == 5) = false ∧ (k == 6) = false) := by
    simp only [beq_eq_false_iff_ne]
    omega
  rcases hk with rfl | rfl | rfl | rfl | rfl | rfl | ⟨h1, h2, h3, h4, h5, h6⟩
  · have hv : wrap64 (IntKind.i8.wrap (x : Int)) = toN 1 x := i8_w x
    go_enter Try.func28, Try.ntmps28
    go_wp2_with fail
    go_returns
    exact ⟨rfl, (by repeat' (first | exact Plus.refl _ | refine Plus.alloc ?_ _ | refine Plus.plus ?_ _ | refine Plus.drew ?_ | refine Plus.drewN ?_ _))⟩
  · rw [toN_2]
    go_enter Try.func28, Try.ntmps28
    go_wp2_with fail
    go_returns
    exact ⟨rfl, (by repeat' (first | exact Plus.refl _ | refine Plus.alloc ?_ _ | refine Plus.plus ?_ _ | refine Plus.drew ?_ | refine Plus.drewN ?_ _))⟩
  · have hv : wrap64 (IntKind.i16.wrap (x : Int)) = toN 3 x := i16_w x
    go_enter Try.func28, Try.ntmps28
    go_wp2_with fail
    go_returns
    exact ⟨rfl, (by repeat' (first | exact Plus.refl _ | refine Plus.alloc ?_ _ | refine Plus.plus ?_ _ | refine Plus.drew ?_ | refine Plus.drewN ?_ _))⟩
  · have hv : wrap64 (IntKind.u16.wrap (x : Int)) = toN 4 x := u16_w x
    go_enter Try.func28, Try.ntmps28
    go_wp2_with fail
    go_returns
    exact ⟨rfl, (by repeat' (first | exact Plus.refl _ | refine Plus.alloc ?_ _ | refine Plus.plus ?_ _ | refine Plus.drew ?_ | refine Plus.drewN ?_ _))⟩
  · have hv : wrap64 (wrap32 (x : Int)) = toN 5 x := i32_w x
    go_enter Try.func28, Try.ntmps28
    go_wp2_with fail
    go_returns
    exact ⟨rfl, (by repeat' (first | exact Plus.refl _ | refine Plus.alloc ?_ _ | refine Plus.plus ?_ _ | refine Plus.drew ?_ | refine Plus.drewN ?_ _))⟩
  · rw [toN_6]
    go_enter Try.func28, Try.ntmps28
    go_wp2_with fail
    go_returns
    exact ⟨rfl, (by repeat' (first | exact Plus.refl _ | refine Plus.alloc ?_ _ | refine Plus.plus ?_ _ | refine Plus.drew ?_ | refine Plus.drewN ?_ _))⟩
  · rw [toN_no x (by simp only [beq_eq_false_iff_ne] at h1 h2 h3 h4 h5 h6; omega)]
    go_enter Try.func28, Try.ntmps28
    go_wp2_with fail
    go_returns
    exact ⟨rfl, (by repeat' (first | exact Plus.refl _ | refine Plus.alloc ?_ _ | refine Plus.plus ?_ _ | refine Plus.drew ?_ | refine Plus.drewN ?_ _))⟩
end Go.Proofs.Ytjojkogmbgppcaa
