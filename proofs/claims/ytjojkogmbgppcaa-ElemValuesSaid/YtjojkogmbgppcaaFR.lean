/- Arguments that came in. -/
import Derived.ProofKit
import Derived.OpenShut
import Derived.ChangeSlices
import Derived.Carry
import Derived.Lib.SmallJoins
import Derived.Test.YtjojkogmbgppcaaW
import Derived.Test.YtjojkogmbgppcaaRows
namespace Go.Proofs.Ytjojkogmbgppcaa
open Go.ChangeShapes Go.WideShapes Go.ChangeAt Go.RowKit Go.Joins
open Go.WideMaps Go.WideElems

theorem elem_own : ownKnob Try.prog.godebug = none := by kernel_rfl
theorem elem_laid : laidOutB Try.prog = true := by kernel_rfl
theorem wf_u64 {n : Int} (h : (Lit.int .u64 n).wf = true) : ∃ x : Nat, n = (x : Int) ∧ x < 18446744073709551616 := by
  simp [Lit.wf, IntKind.min, IntKind.max, IntKind.bits, IntKind.signed] at h
  exact ⟨n.toNat, by omega, by omega⟩
theorem cells5 : Try.prog.cellsOf 5 = 1 := by kernel_rfl
theorem ints_ar {H : Type} {enc : TypeId × Value → H} {W : World} {fuel : Nat} {v : Value} {y : DataW H × List MemPlace} {t e : TypeId} {k : IntKind} {K : Nat} (ht : Try.prog.underlying t = some (.slice e)) (he : Try.prog.underlying e = some (.int k)) (hc1 : Try.prog.cellsOf e = 1) (hk : ∀ z, (Lit.int k z).wf = true → 0 ≤ z ∧ z < K)
    (h : DataW.trod enc Try.prog W 0 (fun _ => true) true fuel t [v] = some y) : ∃ (A : Option Addr) (n c : Nat) (xs : List Nat), v = .slice A n c ∧ Ar k K W A xs n c := by
  rcases open_ints ht he hc1 h with ⟨e, _⟩ | ⟨a, len, cap, zs, e, hb, hl, hm, hz, _, hc, hw⟩
  · injection e with e _
    subst e
    exact ⟨none, 0, 0, [], rfl, Rd.nil, rfl, Nat.le_refl _, by omega, fun x hx => by simp at hx⟩
  · injection e with e _
    subst e
    rw [if_pos rfl] at hz
    have bd : ∀ z ∈ zs, 0 ≤ z ∧ z < K := fun z hz => hk z (hw z hz)
    have hlen : ((zs.take len).map Int.toNat).length = len := by rw [List.length_map, List.length_take]; omega
    refine ⟨some a, len, cap, (zs.take len).map Int.toNat, rfl, fun h0 => ?_, hlen.symm, hl, by unfold maxLen at hm; exact hm, fun x hx => ?_⟩
    · rw [hlen] at h0
      have hs := World.cell?_spot (hc 0 (by omega))
      have e0 : a.add 0 = a := by unfold Addr.add; rw [if_pos rfl]
      rw [e0] at hs
      obtain ⟨b, o, sp⟩ := a
      simp only at hs
      subst hs
      refine ⟨b, o, rfl, ?_, fun j hj => ?_⟩
      · have := World.block_lt_of_cell? _ _ (hc 0 (by omega))
        rwa [block_of_add] at this
      · rw [hlen] at hj
        have q := hc j (by omega)
        rw [add_addr] at q
        rw [q]
        have hj1 : j < zs.length := by omega
        have e1 : zs.getD j 0 = zs[j] := by rw [List.getD_eq_getElem?_getD, List.getElem?_eq_getElem hj1]; rfl
        have e2 : ((zs.take len).map Int.toNat).getD j 0 = zs[j].toNat := by
          rw [List.getD_eq_getElem?_getD, List.getElem?_map, List.getElem?_take, if_pos hj, List.getElem?_eq_getElem hj1]
          rfl
        rw [e1, e2]
        have := bd _ (List.getElem_mem hj1)
        have e3 : ((zs[j].toNat : Nat) : Int) = zs[j] := by omega
        rw [e3]
    · obtain ⟨z, hz1, rfl⟩ := List.mem_map.1 hx
      have := bd z (List.mem_of_mem_take hz1)
      omega
theorem bytes_ar {H : Type} {enc : TypeId × Value → H} {W : World} {fuel : Nat} {v : Value} {y : DataW H × List MemPlace} (h : DataW.trod enc Try.prog W 0 (fun _ => true) true fuel 23 [v] = some y) : ∃ (A : Option Addr) (n c : Nat) (xs : List Nat), v = .slice A n c ∧ Ar .u8 256 W A xs n c :=
  ints_ar Try.underlying23 Try.underlying5 cells5 (fun z hz => by
    simp [Lit.wf, IntKind.min, IntKind.max, IntKind.bits, IntKind.signed] at hz
    omega) h
end Go.Proofs.Ytjojkogmbgppcaa
