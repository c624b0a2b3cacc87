/- The document's own shape. -/
import Derived.WalkKit
import Derived.WalkSpells
import Derived.WalkLawsBesides
import Derived.Handy
import Derived.Deep.RegionHeld3
import Derived.Deep.DeepCutAuto
import Derived.Deep.QuietTactic
import Derived.BigQuiet
import Derived.Lib.Hide
import Derived.KernelRfl
import Derived.WalkMore
import Derived.Deep.LoopGhost
import Derived.IntWalk
import Derived.Test.YtmfdlcicbiincaaDoorR2
namespace Go.Proofs.YtmfdlcicbiincaaDoor
open Go.RowKit

def noneB (s t : Bool) (b a z : Int) (nr nw nf : Nat) : Bool := !s && !t && decide (b = 0) && decide (a = 0) && decide (z = 0) && decide (nr + nw + nf = 0)
set_option maxRecDepth 100000 in
set_option maxHeartbeats 8000000 in
theorem shape_0 {g b a z : Int} {s t : Bool} {R W F : Option Addr} {nr cr nw cw nf cf : Nat} (w : World) (l1 : nr ≤ 20000) (l2 : nw ≤ 20000) (l3 : nf ≤ 20000)  : Calls Tryd.prog 72 #[Value.agg #[.int .i64 g, .int .i64 0, .bool s, .bool t, .int .i64 b, .int .i64 a, .int .i64 z, .slice R nr cr, .slice W nw cw, .slice F nf cf]] w fun e w' => e = .returned (.bool (decide (0 ≤ g) && decide (g < 64) && noneB s t b a z nr nw nf)) ∧ Plus w w' := by
  go_enter Tryd.func72, Tryd.ntmps72
  go_wp2_with (first | (go_at_call 83; (with_reducible refine (rreads_n HR _).mono ?_); rintro e w1 ⟨rfl, ⟨x1, rfl⟩⟩) | (go_at_call 79; (with_reducible refine (rwrites_n HW _).mono ?_); rintro e w1 ⟨rfl, ⟨x2, rfl⟩⟩))
  all_goals go_returns
  all_goals exact ⟨ret_bool (by first | (unfold noneB; simp_all; done) | (rw [Bool.eq_iff_iff]; unfold noneB; simp_all; try omega)), (by repeat' (first | exact Plus.refl _ | refine Plus.alloc ?_ _ | refine Plus.plus ?_ _ | refine Plus.drew ?_ | refine Plus.drewN ?_ _))⟩
set_option maxRecDepth 100000 in
set_option maxHeartbeats 8000000 in
theorem shape_1 {g b a z : Int} {s t : Bool} {R W F : Option Addr} {nr cr nw cw nf cf : Nat} (w : World) (_ : nr ≤ 20000) (_ : nw ≤ 20000) (_ : nf ≤ 20000) (HR : Hid (readsM 1 = true)) (HW : Hid (writesM 1 = false)) : Calls Tryd.prog 72 #[Value.agg #[.int .i64 g, .int .i64 1, .bool s, .bool t, .int .i64 b, .int .i64 a, .int .i64 z, .slice R nr cr, .slice W nw cw, .slice F nf cf]] w fun e w' => e = .returned (.bool (decide (0 ≤ g) && decide (g < 64) && (rangedM b a z && filledM nr nw nf z 0))) ∧ Plus w w' := by
  go_enter Tryd.func72, Tryd.ntmps72
  go_wp2_with (first | (go_at_call 83; (with_reducible refine (rreads_n HR _).mono ?_); rintro e w1 ⟨rfl, ⟨x1, rfl⟩⟩) | (go_at_call 79; (with_reducible refine (rwrites_n HW _).mono ?_); rintro e w1 ⟨rfl, ⟨x2, rfl⟩⟩))
  all_goals go_returns
  all_goals exact ⟨ret_bool (by first | (simp_all; done) | (rw [Bool.eq_iff_iff]; unfold rangedM filledM; simp_all; try omega)), (by repeat' (first | exact Plus.refl _ | refine Plus.alloc ?_ _ | refine Plus.plus ?_ _ | refine Plus.drew ?_ | refine Plus.drewN ?_ _))⟩
set_option maxRecDepth 100000 in
set_option maxHeartbeats 8000000 in
theorem shape_2 {g b a z : Int} {s t : Bool} {R W F : Option Addr} {nr cr nw cw nf cf : Nat} (w : World) (_ : nr ≤ 20000) (_ : nw ≤ 20000) (_ : nf ≤ 20000) (HR : Hid (readsM 2 = false)) (HW : Hid (writesM 2 = true)) : Calls Tryd.prog 72 #[Value.agg #[.int .i64 g, .int .i64 2, .bool s, .bool t, .int .i64 b, .int .i64 a, .int .i64 z, .slice R nr cr, .slice W nw cw, .slice F nf cf]] w fun e w' => e = .returned (.bool (decide (0 ≤ g) && decide (g < 64) && (rangedM b a z && filledM nr nw nf 0 z))) ∧ Plus w w' := by
  go_enter Tryd.func72, Tryd.ntmps72
  go_wp2_with (first | (go_at_call 83; (with_reducible refine (rreads_n HR _).mono ?_); rintro e w1 ⟨rfl, ⟨x1, rfl⟩⟩) | (go_at_call 79; (with_reducible refine (rwrites_n HW _).mono ?_); rintro e w1 ⟨rfl, ⟨x2, rfl⟩⟩))
  all_goals go_returns
  all_goals exact ⟨ret_bool (by first | (simp_all; done) | (rw [Bool.eq_iff_iff]; unfold rangedM filledM; simp_all; try omega)), (by repeat' (first | exact Plus.refl _ | refine Plus.alloc ?_ _ | refine Plus.plus ?_ _ | refine Plus.drew ?_ | refine Plus.drewN ?_ _))⟩
set_option maxRecDepth 100000 in
set_option maxHeartbeats 8000000 in
theorem shape_3 {g b a z : Int} {s t : Bool} {R W F : Option Addr} {nr cr nw cw nf cf : Nat} (w : World) (_ : nr ≤ 20000) (_ : nw ≤ 20000) (_ : nf ≤ 20000) (HR : Hid (readsM 3 = true)) (HW : Hid (writesM 3 = true)) : Calls Tryd.prog 72 #[Value.agg #[.int .i64 g, .int .i64 3, .bool s, .bool t, .int .i64 b, .int .i64 a, .int .i64 z, .slice R nr cr, .slice W nw cw, .slice F nf cf]] w fun e w' => e = .returned (.bool (decide (0 ≤ g) && decide (g < 64) && (rangedM b a z && filledM nr nw nf z z && s && t))) ∧ Plus w w' := by
  go_enter Tryd.func72, Tryd.ntmps72
  go_wp2_with (first | (go_at_call 83; (with_reducible refine (rreads_n HR _).mono ?_); rintro e w1 ⟨rfl, ⟨x1, rfl⟩⟩) | (go_at_call 79; (with_reducible refine (rwrites_n HW _).mono ?_); rintro e w1 ⟨rfl, ⟨x2, rfl⟩⟩))
  all_goals go_returns
  all_goals exact ⟨ret_bool (by first | (simp_all; done) | (rw [Bool.eq_iff_iff]; unfold rangedM filledM; simp_all; try omega)), (by repeat' (first | exact Plus.refl _ | refine Plus.alloc ?_ _ | refine Plus.plus ?_ _ | refine Plus.drew ?_ | refine Plus.drewN ?_ _))⟩
set_option maxRecDepth 100000 in
set_option maxHeartbeats 8000000 in
theorem shape_x {g k b a z : Int} {s t : Bool} {R W F : Option Addr} {nr cr nw cw nf cf : Nat} (w : World) (_ : nr ≤ 20000) (_ : nw ≤ 20000) (_ : nf ≤ 20000) (hk : k < 0 ∨ 3 < k) : Calls Tryd.prog 72 #[Value.agg #[.int .i64 g, .int .i64 k, .bool s, .bool t, .int .i64 b, .int .i64 a, .int .i64 z, .slice R nr cr, .slice W nw cw, .slice F nf cf]] w fun e w' => e = .returned (.bool (false)) ∧ Plus w w' := by
  rcases hk with hk | hk
  all_goals
   go_enter Tryd.func72, Tryd.ntmps72
   go_wp2_with (first | (go_at_call 83; (with_reducible refine (rreads_n HR _).mono ?_); rintro e w1 ⟨rfl, ⟨x1, rfl⟩⟩) | (go_at_call 79; (with_reducible refine (rwrites_n HW _).mono ?_); rintro e w1 ⟨rfl, ⟨x2, rfl⟩⟩))
  all_goals go_returns
  all_goals exact ⟨ret_bool (by first | rfl | (simp_all; done) | (simp; omega)), (by repeat' (first | exact Plus.refl _ | refine Plus.alloc ?_ _ | refine Plus.plus ?_ _ | refine Plus.drew ?_ | refine Plus.drewN ?_ _))⟩
end Go.Proofs.YtmfdlcicbiincaaDoor
