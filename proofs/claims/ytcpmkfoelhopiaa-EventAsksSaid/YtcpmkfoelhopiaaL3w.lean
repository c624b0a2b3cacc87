/- EventAsks, at any two events. -/
import Derived.WalkKit
import Derived.WalkSpells
import Derived.WalkLawsBesides
import Derived.Handy
import Derived.Deep.RegionHeld3
import Derived.Deep.DeepCutAuto
import Derived.Deep.QuietTactic
import Derived.BigQuiet
import Derived.Lib.Hide
import Derived.KernelRfl
import Derived.WalkMore
import Derived.Deep.LoopGhost
import Derived.IntWalk
import Derived.Test.YtcpmkfoelhopiaaL3v
namespace Go.Proofs.Ytcpmkfoelhopiaa
open Go.RowKit

theorem asks_w (x y : ER) (w : World) (H1 : ERM w x) (H2 : ERM w y) (i1 : I64 x.e.a) (i2 : I64 x.e.z) (i3 : I64 y.e.a) (i4 : I64 y.e.z) : Calls Try.prog 3 #[.agg (evL x).toArray, .agg (evL y).toArray] w fun e w' => e = .returned (.bool true) ∧ Plus w w' := by
  obtain ⟨⟨g, k, s, t, b, a, z, xs, us, fs⟩, R, cr, W, cw, F, cf⟩ := x
  obtain ⟨⟨g2, k2, s2, t2, b2, a2, z2, xs2, us2, fs2⟩, R2, cr2, W2, cw2, F2, cf2⟩ := y
  simp only at i1 i2 i3 i4
  exact asks_h w (Lib.hid H1) (Lib.hid H2) i1 i2 i3 i4 (Lib.hid rfl) (Lib.hid rfl) (Lib.hid rfl) (Lib.hid rfl)
end Go.Proofs.Ytcpmkfoelhopiaa
