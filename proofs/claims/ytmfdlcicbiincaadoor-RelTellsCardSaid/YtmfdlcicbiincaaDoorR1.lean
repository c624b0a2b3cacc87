/- The document's own small functions: Event, Reads, Writes, Equal, Covers, Overlap. -/
import Derived.WalkKit
import Derived.WalkSpells
import Derived.WalkLawsBesides
import Derived.Handy
import Derived.Deep.RegionHeld3
import Derived.Deep.DeepCutAuto
import Derived.Deep.QuietTactic
import Derived.BigQuiet
import Derived.Lib.Hide
import Derived.KernelRfl
import Derived.WalkMore
import Derived.Deep.LoopGhost
import Derived.IntWalk
import Derived.Test.YtmfdlcicbiincaaDoorE16
namespace Go.Proofs.YtmfdlcicbiincaaDoor
open Go.RowKit

set_option maxRecDepth 100000 in
set_option maxHeartbeats 4000000 in
theorem event_c {g k b a z : Int} {s t : Bool} {R W F : Option Addr} {nr cr nw cw nf cf : Nat} (w : World) : Calls Tryd.prog 44 #[Value.agg #[.int .i64 g, .int .i64 k, .bool s, .bool t, .int .i64 b, .int .i64 a, .int .i64 z, .slice R nr cr, .slice W nw cw, .slice F nf cf]] w fun e w' => e = .returned (Value.agg #[.int .i64 g, .int .i64 k, .bool s, .bool t, .int .i64 b, .int .i64 a, .int .i64 z, .slice R nr cr, .slice W nw cw, .slice F nf cf]) ∧ Plus w w' := by
  go_enter Tryd.func44, Tryd.ntmps44
  go_wp2_with fail
  go_returns
  exact ⟨rfl, (by repeat' (first | exact Plus.refl _ | refine Plus.alloc ?_ _ | refine Plus.plus ?_ _ | refine Plus.drew ?_ | refine Plus.drewN ?_ _))⟩
set_option maxRecDepth 100000 in
set_option maxHeartbeats 4000000 in
theorem rreads_c {g k b a z : Int} {s t : Bool} {R W F : Option Addr} {nr cr nw cw nf cf : Nat} (w : World) : Calls Tryd.prog 83 #[Value.agg #[.int .i64 g, .int .i64 k, .bool s, .bool t, .int .i64 b, .int .i64 a, .int .i64 z, .slice R nr cr, .slice W nw cw, .slice F nf cf]] w fun e w' => e = .returned (.bool (readsM k)) ∧ Plus w w' := by
  go_enter Tryd.func83, Tryd.ntmps83
  go_wp2_with fail
  all_goals go_returns
  all_goals exact ⟨ret_bool (by unfold readsM; simp_all), (by repeat' (first | exact Plus.refl _ | refine Plus.alloc ?_ _ | refine Plus.plus ?_ _ | refine Plus.drew ?_ | refine Plus.drewN ?_ _))⟩
set_option maxRecDepth 100000 in
set_option maxHeartbeats 4000000 in
theorem rwrites_c {g k b a z : Int} {s t : Bool} {R W F : Option Addr} {nr cr nw cw nf cf : Nat} (w : World) : Calls Tryd.prog 79 #[Value.agg #[.int .i64 g, .int .i64 k, .bool s, .bool t, .int .i64 b, .int .i64 a, .int .i64 z, .slice R nr cr, .slice W nw cw, .slice F nf cf]] w fun e w' => e = .returned (.bool (writesM k)) ∧ Plus w w' := by
  go_enter Tryd.func79, Tryd.ntmps79
  go_wp2_with fail
  all_goals go_returns
  all_goals exact ⟨ret_bool (by unfold writesM; simp_all), (by repeat' (first | exact Plus.refl _ | refine Plus.alloc ?_ _ | refine Plus.plus ?_ _ | refine Plus.drew ?_ | refine Plus.drewN ?_ _))⟩
set_option maxRecDepth 100000 in
set_option maxHeartbeats 4000000 in
theorem requal_c {g k b a z : Int} {s t : Bool} {R W F : Option Addr} {nr cr nw cw nf cf : Nat} {g2 k2 b2 a2 z2 : Int} {s2 t2 : Bool} {R2 W2 F2 : Option Addr} {nr2 cr2 nw2 cw2 nf2 cf2 : Nat} (w : World) : Calls Tryd.prog 54 #[Value.agg #[.int .i64 g, .int .i64 k, .bool s, .bool t, .int .i64 b, .int .i64 a, .int .i64 z, .slice R nr cr, .slice W nw cw, .slice F nf cf], Value.agg #[.int .i64 g2, .int .i64 k2, .bool s2, .bool t2, .int .i64 b2, .int .i64 a2, .int .i64 z2, .slice R2 nr2 cr2, .slice W2 nw2 cw2, .slice F2 nf2 cf2]] w fun e w' => e = .returned (.bool (equalM k b a z k2 b2 a2 z2)) ∧ Plus w w' := by
  go_enter Tryd.func54, Tryd.ntmps54
  go_wp2_with fail
  all_goals go_returns
  all_goals exact ⟨ret_bool (by unfold equalM rangesM; simp_all), (by repeat' (first | exact Plus.refl _ | refine Plus.alloc ?_ _ | refine Plus.plus ?_ _ | refine Plus.drew ?_ | refine Plus.drewN ?_ _))⟩
/-- Does a byte lie in an event's range? -/
def coversM (k b a z blk p : Int) : Bool := k != 0 && b == blk && decide (1 ≤ z) && decide (a ≤ p) && decide (p < a + z)
set_option maxRecDepth 100000 in
set_option maxHeartbeats 4000000 in
theorem covers_c {g k b a z : Int} {s t : Bool} {R W F : Option Addr} {nr cr nw cw nf cf : Nat} {blk p : Int} (w : World) (ha : I64 a) (hz : I64 z) (hp : I64 p) : Calls Tryd.prog 80 #[Value.agg #[.int .i64 g, .int .i64 k, .bool s, .bool t, .int .i64 b, .int .i64 a, .int .i64 z, .slice R nr cr, .slice W nw cw, .slice F nf cf], .int .i64 blk, .int .i64 p] w fun e w' => e = .returned (.bool (coversM k b a z blk p)) ∧ Plus w w' := by
  obtain ⟨h1, h2⟩ := ha
  obtain ⟨h3, h4⟩ := hz
  obtain ⟨h5, h6⟩ := hp
  by_cases d : 0 < z ∧ a ≤ p
  · obtain ⟨d1, d2⟩ := d
    have HS : Hid (IntKind.u64.wrap (IntKind.u64.wrap p - IntKind.u64.wrap a) = p - a) := Lib.hid (u64_sub ⟨h5, h6⟩ ⟨h1, h2⟩ (by omega))
    go_enter Tryd.func80, Tryd.ntmps80
    go_wp2_with fail
    all_goals go_returns
    all_goals exact ⟨ret_bool (by unfold coversM; (try rw [HS.out]); rw [Bool.eq_iff_iff]; simp_all; try omega), (by repeat' (first | exact Plus.refl _ | refine Plus.alloc ?_ _ | refine Plus.plus ?_ _ | refine Plus.drew ?_ | refine Plus.drewN ?_ _))⟩
  · have HC : Hid (coversM k b a z blk p = false) := Lib.hid (by unfold coversM; rw [Bool.eq_false_iff]; intro h; simp at h; omega)
    have d3 : z ≤ 0 ∨ (0 < z ∧ p < a) := by omega
    clear d
    rcases d3 with d3 | ⟨d3, d4⟩
    all_goals
      go_enter Tryd.func80, Tryd.ntmps80
      go_wp2_with fail
    all_goals (try subst_vars)
    all_goals go_returns
    all_goals exact ⟨ret_bool (Eq.trans (by first | rfl | (simp; omega)) HC.out.symm), (by repeat' (first | exact Plus.refl _ | refine Plus.alloc ?_ _ | refine Plus.plus ?_ _ | refine Plus.drew ?_ | refine Plus.drewN ?_ _))⟩
theorem covers_n {r : Bool} {g k b a z : Int} {s t : Bool} {R W F : Option Addr} {nr cr nw cw nf cf : Nat} {blk p : Int} (H : Hid (coversM k b a z blk p = r)) (w : World) (ha : I64 a) (hz : I64 z) (hp : I64 p) : Calls Tryd.prog 80 #[Value.agg #[.int .i64 g, .int .i64 k, .bool s, .bool t, .int .i64 b, .int .i64 a, .int .i64 z, .slice R nr cr, .slice W nw cw, .slice F nf cf], .int .i64 blk, .int .i64 p] w fun e w' => e = .returned (.bool r) ∧ Plus w w' := by
  rw [← H.out]
  exact covers_c w ha hz hp
end Go.Proofs.YtmfdlcicbiincaaDoor
