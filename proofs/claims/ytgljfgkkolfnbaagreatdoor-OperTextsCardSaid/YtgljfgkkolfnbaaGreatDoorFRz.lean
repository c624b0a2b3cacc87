/- What came in, in memory: the listed variables, bytes, units. -/
import Derived.ProofKit
import Derived.OpenShut
import Derived.ChangeSlices
import Derived.Carry
import Derived.Lib.SmallJoins
import Derived.Lib.LaidU8T
import Derived.LaidLaws
import Derived.MakeChecks
import Derived.Lib.LaidTab
import Derived.Test.YtgljfgkkolfnbaaGreatDoorBD
import Derived.Test.YtgljfgkkolfnbaaGreatDoorRows
namespace Go.Proofs.YtgljfgkkolfnbaaGreatDoor
open Go.RowKit

open Go.ChangeShapes Go.WideShapes Go.ChangeAt Go.Joins
open Go.WideMaps Go.WideElems
open Go.ChangeMaps (open_string shut_string)
open Go.Shelf Go.Lib

theorem text_own : ownKnob Tryz.prog.godebug = none := by kernel_rfl
theorem text_laid : laidOutB Tryz.prog = true := by kernel_rfl
theorem cells5 : Tryz.prog.cellsOf 5 = 1 := by kernel_rfl
theorem cells83 : Tryz.prog.cellsOf 83 = 1 := by kernel_rfl
/-- The library's types and variables, as the laid contracts number them. -/
def uren : Ren := ⟨fun n => n, fun | 5 => 5 | 119 => 190 | 138 => 192 | 139 => 193 | n => n, fun | 3 => 0 | 4 => 1 | n => n⟩
theorem u8types : U8Types Tryz.prog uren := { t5 := Tryz.underlying5, t119 := Tryz.underlying190, t138 := by kernel_rfl, t139 := Tryz.underlying193 }
theorem u8extra : U8Extra Tryz.prog uren := { n3 := by kernel_rfl, n4 := by kernel_rfl, y3 := by kernel_rfl, y4 := by kernel_rfl, c5 := by kernel_rfl, c119 := by kernel_rfl, c138 := by kernel_rfl }
theorem hv_of {W : World} {n : String} {cs : Array Value} {v : Value} (h : W.var? Tryz.prog n = some cs) (e : cs.toList = [v]) : W.var? Tryz.prog n = some #[v] := by
  rw [h]
  congr 1
  apply Array.ext'
  rw [e]
theorem iface_var {W : World} {n : String} {name : String} {d : DataW Unit} {g : Nat} (hg : Tryz.prog.globalNamed n = some g) (hty : (Tryz.prog.globals[g]?).map (·.type) = some 166) (h : VarReads Tryz.prog W n (.iface name d)) : ∃ tp p, W.var? Tryz.prog n = some #[.iface tp p] := by
  obtain ⟨g', t', cs, fuel, p, hg', ht', hvar, hd⟩ := h
  obtain rfl := Option.some.inj (hg.symm.trans hg')
  obtain rfl := Option.some.inj (hty.symm.trans ht')
  obtain ⟨_, u, v, e, _⟩ := iface_of_trod Tryz.underlying166 hd
  exact ⟨u, v, hv_of hvar e⟩
theorem lai_of {W : World} (h : laidMetH Tryz.prog Rows.operUnaryRow.laid W) : Lai W := by
  rw [MakeChecks.laidMetH_plain _ _ _ (by kernel_rfl)] at h
  obtain ⟨ps, hv, _⟩ := h
  have R := LaidVars_reads hv
  refine ⟨iface_var (g := 2) (by kernel_rfl) (by kernel_rfl) (R "strconv.ErrSyntax" _ (List.mem_of_getElem? (i := 5) rfl)), iface_var (g := 3) (by kernel_rfl) (by kernel_rfl) (R "strconv.ErrRange" _ (List.mem_of_getElem? (i := 4) rfl)), ?_, ?_⟩
  · have h2 : VarReads Tryz.prog W powName (tabData .u64 Lib.pow10Tab) := R powName _ (List.mem_of_getElem? (i := 2) (by kernel_rfl))
    obtain ⟨g, t, cs, fuel, p, hg, ht, hvar, hd⟩ := h2
    obtain rfl := Option.some.inj ((show Tryz.prog.globalNamed powName = some 5 by kernel_rfl).symm.trans hg)
    obtain rfl := Option.some.inj ((show (Tryz.prog.globals[5]?).map (·.type) = some 211 by kernel_rfl).symm.trans ht)
    unfold TabIs
    rw [hvar, ← cells_of_tab Tryz.underlying211 Tryz.underlying105 (by kernel_rfl) (by kernel_rfl) hd]
  · refine utf8Tabs_of_readsT u8types u8extra (R _ _ (List.mem_of_getElem? (i := 6) (by kernel_rfl))) (R _ _ (List.mem_of_getElem? (i := 3) (by kernel_rfl)))
theorem ints_ar {H : Type} {enc : TypeId × Value → H} {W : World} {fuel : Nat} {v : Value} {y : DataW H × List MemPlace} {t e : TypeId} {k : IntKind} {K : Nat} (ht : Tryz.prog.underlying t = some (.slice e)) (he : Tryz.prog.underlying e = some (.int k)) (hc1 : Tryz.prog.cellsOf e = 1) (hk : ∀ z, (Lit.int k z).wf = true → 0 ≤ z ∧ z < K)
    (h : DataW.trod enc Tryz.prog W 0 (fun _ => true) true fuel t [v] = some y) : ∃ (A : Option Addr) (n c : Nat) (xs : List Nat), v = .slice A n c ∧ Ar k K W A xs n c := by
  rcases open_ints ht he hc1 h with ⟨e, _⟩ | ⟨a, len, cap, zs, e, hb, hl, hm, hz, _, hc, hw⟩
  · injection e with e _
    subst e
    exact ⟨none, 0, 0, [], rfl, Rd.nil, rfl, Nat.le_refl _, by omega, fun x hx => by simp at hx⟩
  · injection e with e _
    subst e
    rw [if_pos rfl] at hz
    have bd : ∀ z ∈ zs, 0 ≤ z ∧ z < K := fun z hz => hk z (hw z hz)
    have hlen : ((zs.take len).map Int.toNat).length = len := by rw [List.length_map, List.length_take]; omega
    refine ⟨some a, len, cap, (zs.take len).map Int.toNat, rfl, fun h0 => ?_, hlen.symm, hl, by unfold maxLen at hm; exact hm, fun x hx => ?_⟩
    · rw [hlen] at h0
      have hs := World.cell?_spot (hc 0 (by omega))
      have e0 : a.add 0 = a := by unfold Addr.add; rw [if_pos rfl]
      rw [e0] at hs
      obtain ⟨b, o, sp⟩ := a
      simp only at hs
      subst hs
      refine ⟨b, o, rfl, ?_, fun j hj => ?_⟩
      · have := World.block_lt_of_cell? _ _ (hc 0 (by omega))
        rwa [block_of_add] at this
      · rw [hlen] at hj
        have q := hc j (by omega)
        rw [add_addr] at q
        rw [q]
        have hj1 : j < zs.length := by omega
        have e1 : zs.getD j 0 = zs[j] := by rw [List.getD_eq_getElem?_getD, List.getElem?_eq_getElem hj1]; rfl
        have e2 : ((zs.take len).map Int.toNat).getD j 0 = zs[j].toNat := by
          rw [List.getD_eq_getElem?_getD, List.getElem?_map, List.getElem?_take, if_pos hj, List.getElem?_eq_getElem hj1]
          rfl
        rw [e1, e2]
        have := bd _ (List.getElem_mem hj1)
        have e3 : ((zs[j].toNat : Nat) : Int) = zs[j] := by omega
        rw [e3]
    · obtain ⟨z, hz1, rfl⟩ := List.mem_map.1 hx
      have := bd z (List.mem_of_mem_take hz1)
      omega
theorem units_ar {H : Type} {enc : TypeId × Value → H} {W : World} {fuel : Nat} {v : Value} {y : DataW H × List MemPlace} (h : DataW.trod enc Tryz.prog W 0 (fun _ => true) true fuel 27 [v] = some y) : ∃ (A : Option Addr) (n c : Nat) (xs : List Nat), v = .slice A n c ∧ Ar .u16 65536 W A xs n c :=
  ints_ar Tryz.underlying27 Tryz.underlying83 cells83 (fun z h => by simp [Lit.wf, IntKind.min, IntKind.max, IntKind.bits, IntKind.signed] at h; omega) h
theorem bytes_ar {H : Type} {enc : TypeId × Value → H} {W : World} {fuel : Nat} {v : Value} {y : DataW H × List MemPlace} (h : DataW.trod enc Tryz.prog W 0 (fun _ => true) true fuel 85 [v] = some y) : ∃ (A : Option Addr) (n c : Nat) (xs : List Nat), v = .slice A n c ∧ Ar .u8 256 W A xs n c :=
  ints_ar Tryz.underlying85 Tryz.underlying5 cells5 (fun z h => by simp [Lit.wf, IntKind.min, IntKind.max, IntKind.bits, IntKind.signed] at h; omega) h
end Go.Proofs.YtgljfgkkolfnbaaGreatDoor
