/- Pairs in memory; slices.Equal of pairs. -/
import Derived.WalkKit
import Derived.WalkSpells
import Derived.WalkLawsBesides
import Derived.Handy
import Derived.Deep.RegionHeld3
import Derived.Deep.DeepCutAuto
import Derived.Deep.QuietTactic
import Derived.BigQuiet
import Derived.Lib.Hide
import Derived.KernelRfl
import Derived.WalkMore
import Derived.Deep.LoopGhost
import Derived.IntWalk
import Derived.Laws.StructEq
import Derived.Laws.Tables
import Derived.Laws.Cover2
import Derived.Laws.Pointers
import Derived.Laws.Small
import Derived.Test.YtmfdlcicbiincaaDoorE2
namespace Go.Proofs.YtmfdlcicbiincaaDoor
open Go.RowKit

@[go_sem] theorem eq56 (a b c d : Int) (w : World) : (Op.equalIn 10000 43 (.agg #[.int .i64 a, .int .i64 b]) (.agg #[.int .i64 c, .int .i64 d])).run Tryd.prog w = .ok (a == c && b == d) w := by
  have u3 := Tryd.underlying3
  have a3 := Tryd.isAgg3
  have z3 := Tryd.sizeOf3
  rw [show (10000 : Nat) = 9999 + 1 from rfl, Op.equalIn]
  simp only [Sem.run_bind, run_underlying Tryd.underlying43, Result.andThen_ok]
  simp only [Std.Legacy.Range.forIn_eq_forIn_range', Std.Legacy.Range.size, Nat.sub_zero, Nat.add_sub_cancel, Nat.div_one, List.range'_succ, List.range'_zero, List.forIn_cons, List.forIn_nil]
  go_simp
  by_cases h1 : a = c <;> by_cases h2 : b = d <;> simp [h1, h2]
abbrev Pr := Int × Int
/-- The slice at A reads as the pairs ps. -/
def PaR (w : World) (A : Option Addr) (ps : List Pr) : Prop := 0 < ps.length → ∃ g o, A = some ⟨g, o, none⟩ ∧ g < w.heap.size ∧ ∀ i, i < ps.length → w.cell? ⟨g, o + i * 2, none⟩ = some (.int .i64 (ps.getD i (0, 0)).1) ∧ w.cell? ⟨g, o + i * 2 + 1, none⟩ = some (.int .i64 (ps.getD i (0, 0)).2)
structure Pa (w : World) (A : Option Addr) (ps : List Pr) (n c : Nat) : Prop where
  rd : PaR w A ps
  len : n = ps.length
  cap : n ≤ c
  max : c ≤ 9223372036854775807
section
variable {w w' : World} {A : Option Addr} {ps : List Pr} {n c : Nat}
theorem PaR.keep (h : PaR w A ps) (hs : w.heap.size ≤ w'.heap.size) (hk : ∀ b, A.map (·.block) = some b → b < w.heap.size → w'.heap[b]? = w.heap[b]?) : PaR w' A ps := fun h0 => by
  obtain ⟨g, o, rfl, hg, hc⟩ := h h0
  have k := hk g rfl hg
  exact ⟨g, o, rfl, by omega, fun i hi => ⟨(World.cell?_of_block (w := w) k).trans (hc i hi).1, (World.cell?_of_block (w := w) k).trans (hc i hi).2⟩⟩
theorem PaR.plus (h : PaR w A ps) (hp : Plus w w') : PaR w' A ps := h.keep hp.below.size fun b _ hk => hp.below.block b hk
theorem Pa.plus (h : Pa w A ps n c) (hp : Plus w w') : Pa w' A ps n c := ⟨h.rd.plus hp, h.len, h.cap, h.max⟩
theorem Pa.nil (w : World) (c : Nat) (hc : c ≤ 9223372036854775807) (A : Option Addr) : Pa w A [] 0 c := ⟨fun h => absurd h (by simp), rfl, Nat.zero_le _, hc⟩
end
def PqRel (xs ys : List Pr) (s : Value) : Prop := ∃ k : Nat, k ≤ xs.length ∧ s = .int .i64 k ∧ xs.take k = ys.take k
end Go.Proofs.YtmfdlcicbiincaaDoor
