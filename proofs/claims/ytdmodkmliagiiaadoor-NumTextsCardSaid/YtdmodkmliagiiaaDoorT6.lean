/- What came in: the listed variables. -/
import Derived.ProofKit
import Derived.OpenShut
import Derived.Carry
import Derived.Lib.SmallJoins
import Derived.LaidLaws
import Derived.MakeChecks
import Derived.Lib.LaidTab
import Derived.Lib.LaidU8
import Derived.Test.YtdmodkmliagiiaaDoorT1
import Derived.Test.YtdmodkmliagiiaaDoorRows
namespace Go.Proofs.YtdmodkmliagiiaaDoor
open Go.RowKit
open Go.ChangeShapes Go.WideShapes Go.ChangeAt Go.Joins
open Go.WideMaps Go.WideElems
open Go.ChangeMaps (open_string shut_string)
open Go.Shelf Go.Lib

theorem hv_of {W : World} {n : String} {cs : Array Value} {v : Value} (h : W.var? Tryd.prog n = some cs) (e : cs.toList = [v]) : W.var? Tryd.prog n = some #[v] := by
  rw [h]
  congr 1
  apply Array.ext'
  rw [e]
theorem iface_var {W : World} {n : String} {name : String} {d : DataW Unit} {g : Nat} (hg : Tryd.prog.globalNamed n = some g) (hty : (Tryd.prog.globals[g]?).map (·.type) = some 52) (h : VarReads Tryd.prog W n (.iface name d)) : ∃ tp p, W.var? Tryd.prog n = some #[.iface tp p] := by
  obtain ⟨g', t', cs, fuel, p, hg', ht', hvar, hd⟩ := h
  obtain rfl := Option.some.inj (hg.symm.trans hg')
  obtain rfl := Option.some.inj (hty.symm.trans ht')
  obtain ⟨_, u, v, e, _⟩ := iface_of_trod Tryd.underlying52 hd
  exact ⟨u, v, hv_of hvar e⟩
theorem lai_of {W : World} (h : laidMetH Tryd.prog Rows.numTurnsRow.laid W) : Lai W := by
  rw [MakeChecks.laidMetH_plain _ _ _ (by kernel_rfl)] at h
  obtain ⟨ps, hv, _⟩ := h
  have R := LaidVars_reads hv
  refine ⟨iface_var (g := 0) (by kernel_rfl) (by kernel_rfl) (R "strconv.ErrSyntax" _ (List.mem_of_getElem? (i := 4) rfl)), iface_var (g := 1) (by kernel_rfl) (by kernel_rfl) (R "strconv.ErrRange" _ (List.mem_of_getElem? (i := 3) rfl)), ?_⟩
  have h2 : VarReads Tryd.prog W powName (tabData .u64 Lib.pow10Tab) := R powName _ (List.mem_of_getElem? (i := 2) (by kernel_rfl))
  obtain ⟨g, t, cs, fuel, p, hg, ht, hvar, hd⟩ := h2
  obtain rfl := Option.some.inj ((show Tryd.prog.globalNamed powName = some 2 by kernel_rfl).symm.trans hg)
  obtain rfl := Option.some.inj ((show (Tryd.prog.globals[2]?).map (·.type) = some 85 by kernel_rfl).symm.trans ht)
  unfold TabIs
  rw [hvar, ← cells_of_tab Tryd.underlying85 Tryd.underlying66 (by kernel_rfl) (by kernel_rfl) hd]
end Go.Proofs.YtdmodkmliagiiaaDoor
