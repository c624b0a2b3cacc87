/- What came in: the listed variable. -/
import Derived.Lib.LaidTab
import Derived.MakeChecks
import Derived.Test.YtmfdlcicbiincaaDoorK18
import Derived.Test.YtmfdlcicbiincaaDoorRows
import Derived.Test.YtmfdlcicbiincaaDoorCards
namespace Go.Proofs.YtmfdlcicbiincaaDoor
open Go.RowKit

theorem lai_of {W : World} (h : laidMetH Tryd.prog Rows.relPartsRow.laid W) : Lai W := by
  rw [MakeChecks.laidMetH_plain _ _ _ (by kernel_rfl)] at h
  have q : Lib.TabIs Tryd.prog W "math/bits.deBruijn64tab" .u8 (Lib.deBruijn64tab.map Int.ofNat) := Lib.tabIs_of_head (rest := []) (g := 0) (t := 110) (e := 5) (n := 64) (by kernel_rfl) (by kernel_rfl) Tryd.underlying110 Tryd.underlying5 (by kernel_rfl) (by kernel_rfl) h
  have hg : Tryd.prog.globalNamed "math/bits.deBruijn64tab" = some 0 := by kernel_rfl
  have hc : ∀ j, j < Lib.deBruijn64tab.length → W.cell? ⟨0, j, none⟩ = some (.int .u8 (Lib.deBruijn64tab.getD j 0 : Nat)) := fun j hj => by
    have q2 := q.cell hg j (by rw [List.length_map]; exact hj)
    rw [q2]
    rw [List.getD_eq_getElem?_getD, List.getD_eq_getElem?_getD, List.getElem?_map, List.getElem?_eq_getElem hj]
    rfl
  refine ⟨?_, hc⟩
  have q3 := hc 0 (by decide)
  apply Nat.pos_of_ne_zero
  intro e
  simp [World.cell?, Array.size_eq_zero_iff.1 e] at q3
end Go.Proofs.YtmfdlcicbiincaaDoor
