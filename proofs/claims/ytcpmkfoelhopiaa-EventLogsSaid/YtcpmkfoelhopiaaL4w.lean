/- EventLogs, at any two logs. -/
import Derived.WalkKit
import Derived.WalkSpells
import Derived.WalkLawsBesides
import Derived.Handy
import Derived.Deep.RegionHeld3
import Derived.Deep.DeepCutAuto
import Derived.Deep.QuietTactic
import Derived.BigQuiet
import Derived.Lib.Hide
import Derived.KernelRfl
import Derived.WalkMore
import Derived.Deep.LoopGhost
import Derived.IntWalk
import Derived.Test.YtcpmkfoelhopiaaL4v
import Derived.Test.YtcpmkfoelhopiaaL5w
namespace Go.Proofs.Ytcpmkfoelhopiaa
open Go.RowKit

theorem sameR_ex (l l2 : List Ev) (ps qs : List Pr) : ∃ r, SameR l l2 ps qs r := ⟨_, rfl⟩
theorem logs_w {l l' : List Ev} {ps ps' : List Pr} {A B A' B' : Option Addr} {n c m d n' c' m' d' : Nat} (z : Int) (w : World) (H : Lg w l ps A n c B m d) (H' : Lg w l' ps' A' n' c' B' m' d') : Calls Try.prog 4 #[.agg #[.slice A n c, .slice B m d], .agg #[.slice A' n' c', .slice B' m' d'], .int .i64 z] w fun e w' => e = .returned (.bool true) ∧ Plus w w' := by
  obtain ⟨hn, hm⟩ := H.len
  obtain ⟨r0, hr⟩ := mayR_ex l ps
  obtain ⟨s0, hs⟩ := sameR_ex l l' ps ps'
  exact logs_a w (Lib.hid H) (Lib.hid H') (Lib.hid ⟨rfl, rfl, rfl, rfl⟩) (by rw [List.length_take]; omega) (Lib.hid hr) (Lib.hid hs) (Lib.hid (sameR_refl _ _)) (Lib.hid (sameR_refl _ _))
end Go.Proofs.Ytcpmkfoelhopiaa
