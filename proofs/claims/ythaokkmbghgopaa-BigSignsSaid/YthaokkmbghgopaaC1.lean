/- Contracts of big's smallest functions. -/
import Derived.WalkKit
import Derived.WalkSpells
import Derived.WalkLawsBesides
import Derived.Handy
import Derived.Deep.RegionHeld3
import Derived.Deep.DeepCutAuto
import Derived.Deep.QuietTactic
import Derived.BigQuiet
import Derived.Lib.Hide
import Derived.KernelRfl
import Derived.WalkMore
import Derived.Deep.LoopGhost
import Derived.Test.YthaokkmbghgopaaProg
import Derived.Test.YthaokkmbghgopaaW
import Derived.Test.YthaokkmbghgopaaP
namespace Go.Proofs.Ythaokkmbghgopaa
open Go.RowKit


theorem limb_c (A : Option Addr) (xs : List Nat) (c k : Nat) (w : World) (h : Lim w A xs) :
    Calls Try.prog 75 #[.slice A xs.length c, .int .i64 k] w fun e w' => e = .returned (.int .u32 (lim xs k : Nat)) ∧ w = w' := by
  by_cases hlt : k < xs.length
  · obtain ⟨ad, rfl, hc⟩ := h.at_ hlt
    go_enter Try.func75, Try.ntmps75
    go_wp2
    go_ret
    exact ⟨rfl, rfl⟩
  · rw [lim_out (by omega)]
    go_enter Try.func75, Try.ntmps75
    go_wp2
    go_ret
    exact ⟨rfl, rfl⟩
end Go.Proofs.Ythaokkmbghgopaa
