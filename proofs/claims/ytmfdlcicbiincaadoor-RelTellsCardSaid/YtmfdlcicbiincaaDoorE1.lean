/- Contracts: small functions of an event. -/
import Derived.WalkKit
import Derived.WalkSpells
import Derived.WalkLawsBesides
import Derived.Handy
import Derived.Deep.RegionHeld3
import Derived.Deep.DeepCutAuto
import Derived.Deep.QuietTactic
import Derived.BigQuiet
import Derived.Lib.Hide
import Derived.KernelRfl
import Derived.WalkMore
import Derived.Deep.LoopGhost
import Derived.IntWalk
import Derived.Test.YtmfdlcicbiincaaDoorW
import Derived.Test.YtmfdlcicbiincaaDoorChecked
namespace Go.Proofs.YtmfdlcicbiincaaDoor
open Go.RowKit

def readsM (k : Int) : Bool := k == 1 || k == 3
def writesM (k : Int) : Bool := k == 2 || k == 3
def rangesM (k k2 : Int) : Bool := k != 0 && k2 != 0
def equalM (k b a z k2 b2 a2 z2 : Int) : Bool := rangesM k k2 && b == b2 && a == a2 && z == z2
def overM (k b a z k2 b2 a2 z2 : Int) : Bool := rangesM k k2 && b == b2 && decide (1 ≤ z) && decide (1 ≤ z2) && decide (a < a2 + z2) && decide (a2 < a + z)
def rangedM (b a z : Int) : Bool := decide (0 ≤ b) && decide (b < 16) && decide (1 ≤ z) && decide (z ≤ 8) && decide (0 ≤ a) && decide (a ≤ 256 - z)
def filledM (nr nw nf : Nat) (x y : Int) : Bool := ((nr : Int) == x) && ((nf : Int) == x) && ((nw : Int) == y)
def I64 (a : Int) : Prop := -9223372036854775808 ≤ a ∧ a ≤ 9223372036854775807
set_option maxRecDepth 100000 in
set_option maxHeartbeats 4000000 in
theorem writes_c {g k b a z : Int} {s t : Bool} {R W F : Option Addr} {nr cr nw cw nf cf : Nat} (w : World) : Calls Tryd.prog 68 #[Value.agg #[.int .i64 g, .int .i64 k, .bool s, .bool t, .int .i64 b, .int .i64 a, .int .i64 z, .slice R nr cr, .slice W nw cw, .slice F nf cf]] w fun e w' => e = .returned (.bool (writesM k)) ∧ Plus w w' := by
  go_enter Tryd.func68, Tryd.ntmps68
  go_wp2_with fail
  all_goals go_returns
  all_goals exact ⟨by unfold writesM; simp_all, (by repeat' (first | exact Plus.refl _ | refine Plus.alloc ?_ _ | refine Plus.plus ?_ _ | refine Plus.drew ?_ | refine Plus.drewN ?_ _))⟩
set_option maxRecDepth 100000 in
set_option maxHeartbeats 4000000 in
theorem ranges_c {g k b a z : Int} {s t : Bool} {R W F : Option Addr} {nr cr nw cw nf cf : Nat} {g2 k2 b2 a2 z2 : Int} {s2 t2 : Bool} {R2 W2 F2 : Option Addr} {nr2 cr2 nw2 cw2 nf2 cf2 : Nat} (w : World) : Calls Tryd.prog 61 #[Value.agg #[.int .i64 g, .int .i64 k, .bool s, .bool t, .int .i64 b, .int .i64 a, .int .i64 z, .slice R nr cr, .slice W nw cw, .slice F nf cf], Value.agg #[.int .i64 g2, .int .i64 k2, .bool s2, .bool t2, .int .i64 b2, .int .i64 a2, .int .i64 z2, .slice R2 nr2 cr2, .slice W2 nw2 cw2, .slice F2 nf2 cf2]] w fun e w' => e = .returned (.bool (rangesM k k2)) ∧ Plus w w' := by
  go_enter Tryd.func61, Tryd.ntmps61
  go_wp2_with fail
  all_goals go_returns
  all_goals exact ⟨by unfold rangesM; simp_all, (by repeat' (first | exact Plus.refl _ | refine Plus.alloc ?_ _ | refine Plus.plus ?_ _ | refine Plus.drew ?_ | refine Plus.drewN ?_ _))⟩
set_option maxRecDepth 100000 in
set_option maxHeartbeats 4000000 in
theorem ranged_c {g k b a z : Int} {s t : Bool} {R W F : Option Addr} {nr cr nw cw nf cf : Nat} (w : World) : Calls Tryd.prog 88 #[Value.agg #[.int .i64 g, .int .i64 k, .bool s, .bool t, .int .i64 b, .int .i64 a, .int .i64 z, .slice R nr cr, .slice W nw cw, .slice F nf cf]] w fun e w' => e = .returned (.bool (rangedM b a z)) ∧ Plus w w' := by
  go_enter Tryd.func88, Tryd.ntmps88
  go_wp2_with fail
  all_goals go_returns
  all_goals exact ⟨by unfold rangedM; simp_all <;> omega, (by repeat' (first | exact Plus.refl _ | refine Plus.alloc ?_ _ | refine Plus.plus ?_ _ | refine Plus.drew ?_ | refine Plus.drewN ?_ _))⟩
set_option maxRecDepth 100000 in
set_option maxHeartbeats 4000000 in
theorem filled_c {g k b a z : Int} {s t : Bool} {R W F : Option Addr} {nr cr nw cw nf cf : Nat} {x y : Int} (w : World) : Calls Tryd.prog 89 #[Value.agg #[.int .i64 g, .int .i64 k, .bool s, .bool t, .int .i64 b, .int .i64 a, .int .i64 z, .slice R nr cr, .slice W nw cw, .slice F nf cf], .int .i64 x, .int .i64 y] w fun e w' => e = .returned (.bool (filledM nr nw nf x y)) ∧ Plus w w' := by
  go_enter Tryd.func89, Tryd.ntmps89
  go_wp2_with fail
  all_goals go_returns
  all_goals exact ⟨by unfold filledM; simp_all, (by repeat' (first | exact Plus.refl _ | refine Plus.alloc ?_ _ | refine Plus.plus ?_ _ | refine Plus.drew ?_ | refine Plus.drewN ?_ _))⟩
theorem ranges_n {g k b a z : Int} {s t : Bool} {R W F : Option Addr} {nr cr nw cw nf cf : Nat} {g2 k2 b2 a2 z2 : Int} {s2 t2 : Bool} {R2 W2 F2 : Option Addr} {nr2 cr2 nw2 cw2 nf2 cf2 : Nat} {c : Bool} (h : Hid (rangesM k k2 = c)) (w : World) : Calls Tryd.prog 61 #[Value.agg #[.int .i64 g, .int .i64 k, .bool s, .bool t, .int .i64 b, .int .i64 a, .int .i64 z, .slice R nr cr, .slice W nw cw, .slice F nf cf], Value.agg #[.int .i64 g2, .int .i64 k2, .bool s2, .bool t2, .int .i64 b2, .int .i64 a2, .int .i64 z2, .slice R2 nr2 cr2, .slice W2 nw2 cw2, .slice F2 nf2 cf2]] w fun e w' => e = .returned (.bool c) ∧ Plus w w' := by
  rw [← h.out]
  exact ranges_c w
set_option maxRecDepth 100000 in
set_option maxHeartbeats 4000000 in
theorem equal_c {g k b a z : Int} {s t : Bool} {R W F : Option Addr} {nr cr nw cw nf cf : Nat} {g2 k2 b2 a2 z2 : Int} {s2 t2 : Bool} {R2 W2 F2 : Option Addr} {nr2 cr2 nw2 cw2 nf2 cf2 : Nat} (w : World) : Calls Tryd.prog 22 #[Value.agg #[.int .i64 g, .int .i64 k, .bool s, .bool t, .int .i64 b, .int .i64 a, .int .i64 z, .slice R nr cr, .slice W nw cw, .slice F nf cf], Value.agg #[.int .i64 g2, .int .i64 k2, .bool s2, .bool t2, .int .i64 b2, .int .i64 a2, .int .i64 z2, .slice R2 nr2 cr2, .slice W2 nw2 cw2, .slice F2 nf2 cf2]] w fun e w' => e = .returned (.bool (equalM k b a z k2 b2 a2 z2)) ∧ Plus w w' := by
  obtain ⟨c, hc⟩ : ∃ c, rangesM k k2 = c := ⟨_, rfl⟩
  have HR := Lib.hid hc
  clear hc
  cases c
  all_goals
   go_enter Tryd.func22, Tryd.ntmps22
   go_wp2_with (go_at_call 61; (with_reducible refine (ranges_n HR _).mono ?_); rintro e w1 ⟨rfl, ⟨x, rfl⟩⟩)
  all_goals go_returns
  all_goals exact ⟨by unfold equalM; rw [HR.out]; simp_all, (by repeat' (first | exact Plus.refl _ | refine Plus.alloc ?_ _ | refine Plus.plus ?_ _ | refine Plus.drew ?_ | refine Plus.drewN ?_ _))⟩
end Go.Proofs.YtmfdlcicbiincaaDoor
