/- EventTells: the ways together. -/
import Derived.WalkKit
import Derived.WalkSpells
import Derived.WalkLawsBesides
import Derived.Handy
import Derived.Deep.RegionHeld3
import Derived.Deep.DeepCutAuto
import Derived.Deep.QuietTactic
import Derived.BigQuiet
import Derived.Lib.Hide
import Derived.KernelRfl
import Derived.WalkMore
import Derived.Deep.LoopGhost
import Derived.IntWalk
import Derived.Test.YtcpmkfoelhopiaaL7v
namespace Go.Proofs.Ytcpmkfoelhopiaa
open Go.RowKit

theorem over_met (k b a z k2 b2 a2 z2 : Int) : overM k b a z k2 b2 a2 z2 = (rangesM k k2 && b == b2 && metTo a a2 z.toNat z2.toNat) := by
  unfold overM
  rw [Bool.eq_iff_iff]
  simp only [Bool.and_eq_true, beq_iff_eq, decide_eq_true_eq, metTo_iff]
  constructor
  · rintro ⟨⟨⟨⟨⟨h1, h2⟩, h3⟩, h4⟩, h5⟩, h6⟩
    exact ⟨⟨h1, h2⟩, by omega⟩
  · rintro ⟨⟨h1, h2⟩, h3, h4, h5, h6⟩
    exact ⟨⟨⟨⟨⟨h1, h2⟩, by omega⟩, by omega⟩, by omega⟩, by omega⟩
theorem tells_w (x y : ER) (w : World) (_ : ERM w x) (_ : ERM w y) (i1 : I64 x.e.a) (i2 : I64 x.e.z) (i3 : I64 y.e.a) (i4 : I64 y.e.z) : Calls Try.prog 7 #[.agg (evL x).toArray, .agg (evL y).toArray] w fun e w' => e = .returned (.bool true) ∧ Plus w w' := by
  obtain ⟨⟨g, k, s, t, b, a, z, xs, us, fs⟩, R, cr, W, cw, F, cf⟩ := x
  obtain ⟨⟨g2, k2, s2, t2, b2, a2, z2, xs2, us2, fs2⟩, R2, cr2, W2, cw2, F2, cf2⟩ := y
  simp only at i1 i2 i3 i4
  by_cases h : 100 < z ∨ 100 < z2 ∨ a < -1000 ∨ 1000 < a ∨ a2 < -1000 ∨ 1000 < a2
  · exact tells_l w h
  · exact tells_m w i1 i2 i3 i4 (Lib.hid rfl) (Lib.hid rfl) (Lib.hid rfl) (Lib.hid (over_met k b a z k2 b2 a2 z2)) (Lib.hid rfl) (Lib.hid rfl) (Lib.hid rfl) (by dsimp only; omega) (by dsimp only; omega) (by dsimp only; omega) (by dsimp only; omega) (by dsimp only; omega) (by dsimp only; omega)
end Go.Proofs.Ytcpmkfoelhopiaa
