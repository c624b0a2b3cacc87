/- EventTurns: the ways together. -/
import Derived.WalkKit
import Derived.WalkSpells
import Derived.WalkLawsBesides
import Derived.Handy
import Derived.Deep.RegionHeld3
import Derived.Deep.DeepCutAuto
import Derived.Deep.QuietTactic
import Derived.BigQuiet
import Derived.Lib.Hide
import Derived.KernelRfl
import Derived.WalkMore
import Derived.Deep.LoopGhost
import Derived.IntWalk
import Derived.Test.YtcpmkfoelhopiaaL6v
namespace Go.Proofs.Ytcpmkfoelhopiaa
open Go.RowKit

theorem over_sym (k b a z k2 b2 a2 z2 : Int) : overM k b a z k2 b2 a2 z2 = overM k2 b2 a2 z2 k b a z := by
  unfold overM rangesM
  rw [Bool.eq_iff_iff]
  simp
  omega
theorem equal_sym (k b a z k2 b2 a2 z2 : Int) : equalM k b a z k2 b2 a2 z2 = equalM k2 b2 a2 z2 k b a z := by
  unfold equalM rangesM
  rw [Bool.eq_iff_iff]
  simp
  omega
theorem over_yes {k b a z k2 b2 a2 z2 : Int} (h : overM k b a z k2 b2 a2 z2 = true) : b2 = b ∧ 1 ≤ z ∧ k ≠ 0 := by
  unfold overM rangesM at h
  simp at h
  omega
theorem equal_yes {k b a z k2 b2 a2 z2 : Int} (h : equalM k b a z k2 b2 a2 z2 = true) (ho : overM k b a z k2 b2 a2 z2 = false) : z ≤ 0 ∧ k ≠ 0 := by
  unfold equalM rangesM at h
  simp at h
  refine ⟨?_, by omega⟩
  rcases Int.lt_or_le 0 z with hz | hz
  · exfalso
    have q : overM k b a z k2 b2 a2 z2 = true := by
      unfold overM rangesM
      simp
      omega
    rw [q] at ho
    cases ho
  · exact hz
theorem turns_w (x y : ER) (w : World) (H1 : ERM w x) (H2 : ERM w y) (i1 : I64 x.e.a) (i2 : I64 x.e.z) (i3 : I64 y.e.a) (i4 : I64 y.e.z) : Calls Try.prog 6 #[.agg (evL x).toArray, .agg (evL y).toArray] w fun e w' => e = .returned (.bool true) ∧ Plus w w' := by
  obtain ⟨⟨g, k, s, t, b, a, z, xs, us, fs⟩, R, cr, W, cw, F, cf⟩ := x
  obtain ⟨⟨g2, k2, s2, t2, b2, a2, z2, xs2, us2, fs2⟩, R2, cr2, W2, cw2, F2, cf2⟩ := y
  simp only at i1 i2 i3 i4
  obtain ⟨o, ho⟩ : ∃ o, overM k b a z k2 b2 a2 z2 = o := ⟨_, rfl⟩
  obtain ⟨e, he⟩ : ∃ e, equalM k b a z k2 b2 a2 z2 = e := ⟨_, rfl⟩
  have ho2 := (over_sym k b a z k2 b2 a2 z2).symm.trans ho
  have he2 := (equal_sym k b a z k2 b2 a2 z2).symm.trans he
  cases o
  · cases e
    · by_cases hk : k = 0
      · subst hk
        exact turns_s w (Lib.hid H1) (Lib.hid H2) i1 i2 i3 i4 (Lib.hid ho) (Lib.hid ho2) (Lib.hid he) (Lib.hid he2) (Lib.hid (by decide)) (Lib.hid (by decide))
      · exact turns_f w (Lib.hid H1) (Lib.hid H2) i1 i2 i3 i4 (Lib.hid ho) (Lib.hid ho2) (Lib.hid he) (Lib.hid he2) (by simpa using hk)
    · obtain ⟨hz, hk⟩ := equal_yes he ho
      exact turns_z w (Lib.hid H1) (Lib.hid H2) i1 i2 i3 i4 (Lib.hid ho) (Lib.hid ho2) (Lib.hid he) (Lib.hid he2) hz (by simpa using hk)
  · obtain ⟨rfl, hz, hk⟩ := over_yes ho
    cases e
    · exact turns_u w (Lib.hid H1) (Lib.hid H2) i1 i2 i3 i4 (Lib.hid ho) (Lib.hid ho2) (Lib.hid he) (Lib.hid he2) hz (by simpa using hk)
    · exact turns_t w (Lib.hid H1) (Lib.hid H2) i1 i2 i3 i4 (Lib.hid ho) (Lib.hid ho2) (Lib.hid he) (Lib.hid he2) hz (by simpa using hk)
end Go.Proofs.Ytcpmkfoelhopiaa
