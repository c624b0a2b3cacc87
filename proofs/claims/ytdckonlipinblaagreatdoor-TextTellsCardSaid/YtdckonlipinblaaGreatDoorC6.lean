/- Contracts: Bytes. -/
import Derived.Test.YtdckonlipinblaaGreatDoorC5
import Derived.Test.YtdckonlipinblaaGreatDoorHd
namespace Go.Proofs.YtdckonlipinblaaGreatDoor
open Go.RowKit


theorem info_parts {e : TypeId} {z : Value} {s b : Nat} (h : (Tryz.prog.info? e).map (fun i => (i.zero, i.size, i.bytes)) = some (some z, s, b)) : ∃ i0, Tryz.prog.info? e = some i0 ∧ i0.zero = some z ∧ i0.size = s ∧ i0.bytes = b := by
  cases q : Tryz.prog.info? e with
  | none => rw [q] at h; cases h
  | some i0 =>
    rw [q] at h
    simp only [Option.map_some, Option.some.injEq, Prod.mk.injEq] at h
    exact ⟨i0, rfl, h.1, h.2.1, h.2.2⟩
theorem mk_row0 (t e : TypeId) (k : IntKind) (bytes : Nat) (ht : Tryz.prog.underlying t = some (.slice e)) (hinfo : (Tryz.prog.info? e).map (fun i => (i.zero, i.size, i.bytes)) = some (some (.int k 0), 1, bytes))
    (n : Nat) (hb : bytes * n ≤ 281474976710656) (h63 : n ≤ 9223372036854775807) (w : World) :
    (Instr.makeSlice t (.int .i64 0) (.int .i64 (n : Int))).run Tryz.prog w = .ok (.slice (some ⟨w.heap.size, 0, none⟩) 0 n) (w.alloc (.cells (madeCells #[.int k 0] n) e)) := by
  obtain ⟨i0, hi, hz, hs, hbb⟩ := info_parts hinfo
  have q := run_make w t e i0 (.int k 0) ht hi hz .i64 .i64 0 (n : Int) (by omega) (by omega) (by rw [hbb]; omega) (by omega)
  rw [hs] at q
  simp only [Int.toNat_natCast, Nat.mul_one] at q
  exact q
theorem made_own (k : IntKind) (w : World) (e : TypeId) (n : Nat) (h : n ≤ 9223372036854775807) : (w.alloc (.cells (madeCells #[.int k 0] n) e)).ownsRow w.heap.size e 1 (.slice (some ⟨w.heap.size, 0, none⟩) 0 n) ([] : List Nat).length (vals k []) :=
  ⟨rfl, .inr ⟨w.heap.size, n, _, rfl, Nat.le_refl _, heap_alloc_new w _, Nat.zero_le _, h, by rw [zeros_cells]; simp, rfl⟩⟩
theorem own_drew {w : World} {B e z n : Nat} {v : Value} {l : List Value} (h : w.ownsRow B e z v n l) : w.drew.ownsRow B e z v n l := h
end Go.Proofs.YtdckonlipinblaaGreatDoor
