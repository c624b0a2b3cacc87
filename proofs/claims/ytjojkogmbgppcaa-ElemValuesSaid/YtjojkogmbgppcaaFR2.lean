/- BigInts that came in. -/
import Derived.ProofKit
import Derived.OpenShut
import Derived.ChangeSlices
import Derived.Carry
import Derived.Lib.SmallJoins
import Derived.Test.YtjojkogmbgppcaaFR
import Derived.Test.YtjojkogmbgppcaaGC13
namespace Go.Proofs.Ytjojkogmbgppcaa
open Go.ChangeShapes Go.WideShapes Go.ChangeAt Go.RowKit Go.Joins
open Go.WideMaps Go.WideElems
theorem cells37 : Try.prog.cellsOf 37 = 2 := by kernel_rfl
theorem cells34 : Try.prog.cellsOf 34 = 2 := by kernel_rfl
theorem cells66 : Try.prog.cellsOf 66 = 1 := by kernel_rfl
namespace Bg
theorem raw_of {H : Type} {enc : TypeId × Value → H} {W : World} {fuel : Nat} {v : Value} {y : DataW H × List MemPlace} (h : DataW.trod enc Try.prog W 0 (fun _ => true) true fuel 35 [v] = some y) :
    ∃ (A : Option Addr) (n c : Nat) (xs : List Nat), v = .slice A n c ∧ Lim W A xs ∧ n = xs.length ∧ xs.length ≤ c ∧ c ≤ 9223372036854775807 := by
  rcases open_ints Try.underlying35 Try.underlying66 cells66 h with ⟨e, _⟩ | ⟨a, len, cap, zs, e, hb, hl, hm, hz, _, hc, hw⟩
  · injection e with e _
    subst e
    exact ⟨none, 0, 0, [], rfl, Lim.nil, rfl, Nat.le_refl _, by omega⟩
  · injection e with e _
    subst e
    rw [if_pos rfl] at hz
    have bd : ∀ z ∈ zs, 0 ≤ z ∧ z < 4294967296 := fun z hz => by
      have := hw z hz
      simp [Lit.wf, IntKind.min, IntKind.max, IntKind.bits, IntKind.signed] at this
      omega
    have hlen : ((zs.take len).map Int.toNat).length = len := by rw [List.length_map, List.length_take]; omega
    refine ⟨some a, len, cap, (zs.take len).map Int.toNat, rfl, ⟨fun x hx => ?_, fun h0 => ?_⟩, hlen.symm, by rw [hlen]; exact hl, by unfold maxLen at hm; exact hm⟩
    · obtain ⟨z, hz1, rfl⟩ := List.mem_map.1 hx
      have := bd z (List.mem_of_mem_take hz1)
      have := B_eq
      omega
    · rw [hlen] at h0
      refine ⟨a, rfl, ?_, fun j hj => ?_⟩
      · have := World.block_lt_of_cell? _ _ (hc 0 (by omega))
        rwa [block_of_add] at this
      · rw [hlen] at hj
        rw [hc j (by omega)]
        have hj1 : j < zs.length := by omega
        have e1 : zs.getD j 0 = zs[j] := by rw [List.getD_eq_getElem?_getD, List.getElem?_eq_getElem hj1]; rfl
        have e2 : lim ((zs.take len).map Int.toNat) j = zs[j].toNat := by
          rw [lim_in (by rw [hlen]; exact hj)]
          simp
        rw [e1, e2]
        have := bd _ (List.getElem_mem hj1)
        have e3 : ((zs[j].toNat : Nat) : Int) = zs[j] := by omega
        rw [e3]
end Bg
end Go.Proofs.Ytjojkogmbgppcaa
