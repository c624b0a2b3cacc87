/- A BigInt that came in, as limbs in memory. -/
import Derived.ProofKit
import Derived.OpenShut
import Derived.ChangeSlices
import Derived.Carry
import Derived.Lib.SmallJoins
import Derived.Test.YthaokkmbghgopaaC28
import Derived.Test.YthaokkmbghgopaaRows
namespace Go.Proofs.Ythaokkmbghgopaa
open Go.ChangeShapes Go.WideShapes Go.ChangeAt Go.RowKit Go.Joins
open Go.WideMaps Go.WideElems
open Go.ChangeMaps (open_string shut_string)


theorem bigs_own : ownKnob Try.prog.godebug = none := by kernel_rfl
theorem bigs_laid : laidOutB Try.prog = true := by kernel_rfl
theorem cells24 : Try.prog.cellsOf 24 = 2 := by kernel_rfl
theorem cells53 : Try.prog.cellsOf 53 = 1 := by kernel_rfl
theorem raw_of {H : Type} {enc : TypeId × Value → H} {W : World} {fuel : Nat} {v : Value} {y : DataW H × List MemPlace} (h : DataW.trod enc Try.prog W 0 (fun _ => true) true fuel 22 [v] = some y) :
    ∃ (A : Option Addr) (n c : Nat) (xs : List Nat), v = .slice A n c ∧ Raw W A xs n c := by
  rcases open_ints Try.underlying22 Try.underlying53 cells53 h with ⟨e, _⟩ | ⟨a, len, cap, zs, e, hb, hl, hm, hz, _, hc, hw⟩
  · injection e with e _
    subst e
    exact ⟨none, 0, 0, [], rfl, Lim.nil, rfl, Nat.le_refl _, by omega⟩
  · injection e with e _
    subst e
    rw [if_pos rfl] at hz
    have bd : ∀ z ∈ zs, 0 ≤ z ∧ z < 4294967296 := fun z hz => by
      have := hw z hz
      simp [Lit.wf, IntKind.min, IntKind.max, IntKind.bits, IntKind.signed] at this
      omega
    have hlen : ((zs.take len).map Int.toNat).length = len := by rw [List.length_map, List.length_take]; omega
    refine ⟨some a, len, cap, (zs.take len).map Int.toNat, rfl, ⟨fun x hx => ?_, fun h0 => ?_⟩, hlen.symm, by rw [hlen]; exact hl, by unfold maxLen at hm; exact hm⟩
    · obtain ⟨z, hz1, rfl⟩ := List.mem_map.1 hx
      have := bd z (List.mem_of_mem_take hz1)
      have := B_eq
      omega
    · rw [hlen] at h0
      refine ⟨a, rfl, ?_, fun j hj => ?_⟩
      · have := World.block_lt_of_cell? _ _ (hc 0 (by omega))
        rwa [block_of_add] at this
      · rw [hlen] at hj
        rw [hc j (by omega)]
        have hj1 : j < zs.length := by omega
        have e1 : zs.getD j 0 = zs[j] := by rw [List.getD_eq_getElem?_getD, List.getElem?_eq_getElem hj1]; rfl
        have e2 : lim ((zs.take len).map Int.toNat) j = zs[j].toNat := by
          rw [lim_in (by rw [hlen]; exact hj)]
          simp
        rw [e1, e2]
        have := bd _ (List.getElem_mem hj1)
        have e3 : ((zs[j].toNat : Nat) : Int) = zs[j] := by omega
        rw [e3]
end Go.Proofs.Ythaokkmbghgopaa
