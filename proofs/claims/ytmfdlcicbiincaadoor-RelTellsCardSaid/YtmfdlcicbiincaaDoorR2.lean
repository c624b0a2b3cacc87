/- The document's own Overlap. -/
import Derived.WalkKit
import Derived.WalkSpells
import Derived.WalkLawsBesides
import Derived.Handy
import Derived.Deep.RegionHeld3
import Derived.Deep.DeepCutAuto
import Derived.Deep.QuietTactic
import Derived.BigQuiet
import Derived.Lib.Hide
import Derived.KernelRfl
import Derived.WalkMore
import Derived.Deep.LoopGhost
import Derived.IntWalk
import Derived.Test.YtmfdlcicbiincaaDoorR1
namespace Go.Proofs.YtmfdlcicbiincaaDoor
open Go.RowKit

theorem rreads_n {c : Bool} {g k b a z : Int} {s t : Bool} {R W F : Option Addr} {nr cr nw cw nf cf : Nat} (h : Hid (readsM k = c)) (w : World) : Calls Tryd.prog 83 #[Value.agg #[.int .i64 g, .int .i64 k, .bool s, .bool t, .int .i64 b, .int .i64 a, .int .i64 z, .slice R nr cr, .slice W nw cw, .slice F nf cf]] w fun e w' => e = .returned (.bool c) ∧ Plus w w' := by
  rw [← h.out]
  exact rreads_c w
theorem rwrites_n {c : Bool} {g k b a z : Int} {s t : Bool} {R W F : Option Addr} {nr cr nw cw nf cf : Nat} (h : Hid (writesM k = c)) (w : World) : Calls Tryd.prog 79 #[Value.agg #[.int .i64 g, .int .i64 k, .bool s, .bool t, .int .i64 b, .int .i64 a, .int .i64 z, .slice R nr cr, .slice W nw cw, .slice F nf cf]] w fun e w' => e = .returned (.bool c) ∧ Plus w w' := by
  rw [← h.out]
  exact rwrites_c w
theorem requal_n {c : Bool} {g k b a z : Int} {s t : Bool} {R W F : Option Addr} {nr cr nw cw nf cf : Nat} {g2 k2 b2 a2 z2 : Int} {s2 t2 : Bool} {R2 W2 F2 : Option Addr} {nr2 cr2 nw2 cw2 nf2 cf2 : Nat} (h : Hid (equalM k b a z k2 b2 a2 z2 = c)) (w : World) : Calls Tryd.prog 54 #[Value.agg #[.int .i64 g, .int .i64 k, .bool s, .bool t, .int .i64 b, .int .i64 a, .int .i64 z, .slice R nr cr, .slice W nw cw, .slice F nf cf], Value.agg #[.int .i64 g2, .int .i64 k2, .bool s2, .bool t2, .int .i64 b2, .int .i64 a2, .int .i64 z2, .slice R2 nr2 cr2, .slice W2 nw2 cw2, .slice F2 nf2 cf2]] w fun e w' => e = .returned (.bool c) ∧ Plus w w' := by
  rw [← h.out]
  exact requal_c w
end Go.Proofs.YtmfdlcicbiincaaDoor
