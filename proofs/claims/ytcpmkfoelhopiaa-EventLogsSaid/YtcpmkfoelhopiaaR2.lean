/- The document's own Overlap. -/
import Derived.WalkKit
import Derived.WalkSpells
import Derived.WalkLawsBesides
import Derived.Handy
import Derived.Deep.RegionHeld3
import Derived.Deep.DeepCutAuto
import Derived.Deep.QuietTactic
import Derived.BigQuiet
import Derived.Lib.Hide
import Derived.KernelRfl
import Derived.WalkMore
import Derived.Deep.LoopGhost
import Derived.IntWalk
import Derived.Test.YtcpmkfoelhopiaaR1
namespace Go.Proofs.Ytcpmkfoelhopiaa
open Go.RowKit

set_option maxRecDepth 100000 in
set_option maxHeartbeats 4000000 in
theorem rover_y {g k b a z : Int} {s t : Bool} {R W F : Option Addr} {nr cr nw cw nf cf : Nat} {g2 k2 a2 z2 : Int} {s2 t2 : Bool} {R2 W2 F2 : Option Addr} {nr2 cr2 nw2 cw2 nf2 cf2 : Nat} {r1 r2 : Bool} (w : World) (i1 : I64 a) (i2 : I64 z) (i3 : I64 a2) (i4 : I64 z2) (HC1 : Hid (coversM k b a z b a2 = r1)) (HC2 : Hid (coversM k2 b a2 z2 b a = r2)) (d1 : 0 < z) (d2 : 0 < z2) (d3 : (k != 0) = true) (d4 : (k2 != 0) = true) : Calls Try.prog 19 #[Value.agg #[.int .i64 g, .int .i64 k, .bool s, .bool t, .int .i64 b, .int .i64 a, .int .i64 z, .slice R nr cr, .slice W nw cw, .slice F nf cf], Value.agg #[.int .i64 g2, .int .i64 k2, .bool s2, .bool t2, .int .i64 b, .int .i64 a2, .int .i64 z2, .slice R2 nr2 cr2, .slice W2 nw2 cw2, .slice F2 nf2 cf2]] w fun e w' => e = .returned (.bool (r1 || r2)) ∧ Plus w w' := by
  cases r1
  all_goals
    go_enter Try.func19, Try.ntmps19
    go_wp2_with (first | (go_at_call_of 30 (Value.agg #[.int .i64 g, .int .i64 k, .bool s, .bool t, .int .i64 b, .int .i64 a, .int .i64 z, .slice R nr cr, .slice W nw cw, .slice F nf cf]); (with_reducible refine (covers_n HC1 _ i1 i2 i3).mono ?_); rintro e w1 ⟨rfl, ⟨x1, rfl⟩⟩) | (go_at_call_of 30 (Value.agg #[.int .i64 g2, .int .i64 k2, .bool s2, .bool t2, .int .i64 b, .int .i64 a2, .int .i64 z2, .slice R2 nr2 cr2, .slice W2 nw2 cw2, .slice F2 nf2 cf2]); (with_reducible refine (covers_n HC2 _ i3 i4 i1).mono ?_); rintro e w1 ⟨rfl, ⟨x2, rfl⟩⟩))
  all_goals go_returns
  all_goals exact ⟨rfl, (by repeat' (first | exact Plus.refl _ | refine Plus.alloc ?_ _ | refine Plus.plus ?_ _ | refine Plus.drew ?_ | refine Plus.drewN ?_ _))⟩
set_option maxRecDepth 100000 in
set_option maxHeartbeats 4000000 in
theorem rover_x {g k b a z : Int} {s t : Bool} {R W F : Option Addr} {nr cr nw cw nf cf : Nat} {g2 k2 b2 a2 z2 : Int} {s2 t2 : Bool} {R2 W2 F2 : Option Addr} {nr2 cr2 nw2 cw2 nf2 cf2 : Nat} (w : World) (h : z ≤ 0 ∨ z2 ≤ 0 ∨ k = 0 ∨ k2 = 0 ∨ b ≠ b2) : Calls Try.prog 19 #[Value.agg #[.int .i64 g, .int .i64 k, .bool s, .bool t, .int .i64 b, .int .i64 a, .int .i64 z, .slice R nr cr, .slice W nw cw, .slice F nf cf], Value.agg #[.int .i64 g2, .int .i64 k2, .bool s2, .bool t2, .int .i64 b2, .int .i64 a2, .int .i64 z2, .slice R2 nr2 cr2, .slice W2 nw2 cw2, .slice F2 nf2 cf2]] w fun e w' => e = .returned (.bool false) ∧ Plus w w' := by
  rcases h with h | h | rfl | rfl | h
  · go_enter Try.func19, Try.ntmps19
    go_wp2_with fail
    all_goals go_returns
    all_goals exact ⟨ret_bool (by first | rfl | (simp; omega)), (by repeat' (first | exact Plus.refl _ | refine Plus.alloc ?_ _ | refine Plus.plus ?_ _ | refine Plus.drew ?_ | refine Plus.drewN ?_ _))⟩
  · go_enter Try.func19, Try.ntmps19
    go_wp2_with fail
    all_goals go_returns
    all_goals exact ⟨ret_bool (by first | rfl | (simp; omega)), (by repeat' (first | exact Plus.refl _ | refine Plus.alloc ?_ _ | refine Plus.plus ?_ _ | refine Plus.drew ?_ | refine Plus.drewN ?_ _))⟩
  · go_enter Try.func19, Try.ntmps19
    go_wp2_with fail
    all_goals go_returns
    all_goals exact ⟨ret_bool (by first | rfl | (simp; omega) | (simp_all; done)), (by repeat' (first | exact Plus.refl _ | refine Plus.alloc ?_ _ | refine Plus.plus ?_ _ | refine Plus.drew ?_ | refine Plus.drewN ?_ _))⟩
  · go_enter Try.func19, Try.ntmps19
    go_wp2_with fail
    all_goals go_returns
    all_goals exact ⟨ret_bool (by first | rfl | (simp; omega) | (simp_all; done)), (by repeat' (first | exact Plus.refl _ | refine Plus.alloc ?_ _ | refine Plus.plus ?_ _ | refine Plus.drew ?_ | refine Plus.drewN ?_ _))⟩
  · have q : (b == b2) = false := by simpa using h
    go_enter Try.func19, Try.ntmps19
    go_wp2_with fail
    all_goals go_returns
    all_goals exact ⟨ret_bool (by first | rfl | (simp; omega) | (simp_all; done)), (by repeat' (first | exact Plus.refl _ | refine Plus.alloc ?_ _ | refine Plus.plus ?_ _ | refine Plus.drew ?_ | refine Plus.drewN ?_ _))⟩
theorem rover_n {r : Bool} {g k b a z : Int} {s t : Bool} {R W F : Option Addr} {nr cr nw cw nf cf : Nat} {g2 k2 b2 a2 z2 : Int} {s2 t2 : Bool} {R2 W2 F2 : Option Addr} {nr2 cr2 nw2 cw2 nf2 cf2 : Nat} (H : Hid (overM k b a z k2 b2 a2 z2 = r)) (w : World) (i1 : I64 a) (i2 : I64 z) (i3 : I64 a2) (i4 : I64 z2) : Calls Try.prog 19 #[Value.agg #[.int .i64 g, .int .i64 k, .bool s, .bool t, .int .i64 b, .int .i64 a, .int .i64 z, .slice R nr cr, .slice W nw cw, .slice F nf cf], Value.agg #[.int .i64 g2, .int .i64 k2, .bool s2, .bool t2, .int .i64 b2, .int .i64 a2, .int .i64 z2, .slice R2 nr2 cr2, .slice W2 nw2 cw2, .slice F2 nf2 cf2]] w fun e w' => e = .returned (.bool r) ∧ Plus w w' := by
  rw [← H.out]
  by_cases h : z ≤ 0 ∨ z2 ≤ 0 ∨ k = 0 ∨ k2 = 0 ∨ b ≠ b2
  · have e : overM k b a z k2 b2 a2 z2 = false := by
      unfold overM rangesM
      rw [Bool.eq_false_iff]
      intro q
      simp at q
      omega
    rw [e]
    exact rover_x w h
  · obtain rfl : b2 = b := by omega
    have e : overM k b2 a z k2 b2 a2 z2 = (coversM k b2 a z b2 a2 || coversM k2 b2 a2 z2 b2 a) := by
      unfold overM rangesM coversM
      rw [Bool.eq_iff_iff]
      simp
      omega
    rw [e]
    exact rover_y w i1 i2 i3 i4 (Lib.hid rfl) (Lib.hid rfl) (by omega) (by omega) (by simp; omega) (by simp; omega)
theorem rreads_n {c : Bool} {g k b a z : Int} {s t : Bool} {R W F : Option Addr} {nr cr nw cw nf cf : Nat} (h : Hid (readsM k = c)) (w : World) : Calls Try.prog 13 #[Value.agg #[.int .i64 g, .int .i64 k, .bool s, .bool t, .int .i64 b, .int .i64 a, .int .i64 z, .slice R nr cr, .slice W nw cw, .slice F nf cf]] w fun e w' => e = .returned (.bool c) ∧ Plus w w' := by
  rw [← h.out]
  exact rreads_c w
theorem rwrites_n {c : Bool} {g k b a z : Int} {s t : Bool} {R W F : Option Addr} {nr cr nw cw nf cf : Nat} (h : Hid (writesM k = c)) (w : World) : Calls Try.prog 15 #[Value.agg #[.int .i64 g, .int .i64 k, .bool s, .bool t, .int .i64 b, .int .i64 a, .int .i64 z, .slice R nr cr, .slice W nw cw, .slice F nf cf]] w fun e w' => e = .returned (.bool c) ∧ Plus w w' := by
  rw [← h.out]
  exact rwrites_c w
theorem requal_n {c : Bool} {g k b a z : Int} {s t : Bool} {R W F : Option Addr} {nr cr nw cw nf cf : Nat} {g2 k2 b2 a2 z2 : Int} {s2 t2 : Bool} {R2 W2 F2 : Option Addr} {nr2 cr2 nw2 cw2 nf2 cf2 : Nat} (h : Hid (equalM k b a z k2 b2 a2 z2 = c)) (w : World) : Calls Try.prog 17 #[Value.agg #[.int .i64 g, .int .i64 k, .bool s, .bool t, .int .i64 b, .int .i64 a, .int .i64 z, .slice R nr cr, .slice W nw cw, .slice F nf cf], Value.agg #[.int .i64 g2, .int .i64 k2, .bool s2, .bool t2, .int .i64 b2, .int .i64 a2, .int .i64 z2, .slice R2 nr2 cr2, .slice W2 nw2 cw2, .slice F2 nf2 cf2]] w fun e w' => e = .returned (.bool c) ∧ Plus w w' := by
  rw [← h.out]
  exact requal_c w
end Go.Proofs.Ytcpmkfoelhopiaa
