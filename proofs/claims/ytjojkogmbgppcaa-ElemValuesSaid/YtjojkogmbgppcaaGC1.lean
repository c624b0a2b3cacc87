/- Contracts of big's smallest functions. -/
import Derived.WalkKit
import Derived.WalkSpells
import Derived.WalkLawsBesides
import Derived.Handy
import Derived.Deep.RegionHeld3
import Derived.Deep.DeepCutAuto
import Derived.Deep.QuietTactic
import Derived.BigQuiet
import Derived.Lib.Hide
import Derived.KernelRfl
import Derived.WalkMore
import Derived.Deep.LoopGhost
import Derived.Test.YtjojkogmbgppcaaProg
import Derived.Test.YtjojkogmbgppcaaGW
import Derived.Test.YtjojkogmbgppcaaP
namespace Go.Proofs.Ytjojkogmbgppcaa.Bg
open Go.RowKit


theorem limb_c (A : Option Addr) (xs : List Nat) (c k : Nat) (w : World) (h : Lim w A xs) :
    Calls Try.prog 52 #[.slice A xs.length c, .int .i64 k] w fun e w' => e = .returned (.int .u32 (lim xs k : Nat)) ∧ w = w' := by
  by_cases hlt : k < xs.length
  · obtain ⟨ad, rfl, hc⟩ := h.at_ hlt
    go_enter Try.func52, Try.ntmps52
    go_wp2
    go_ret
    exact ⟨rfl, rfl⟩
  · rw [lim_out (by omega)]
    go_enter Try.func52, Try.ntmps52
    go_wp2
    go_ret
    exact ⟨rfl, rfl⟩
end Go.Proofs.Ytjojkogmbgppcaa.Bg
