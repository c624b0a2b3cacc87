/- RelParts: plain facts. -/
import Derived.WalkKit
import Derived.WalkSpells
import Derived.WalkLawsBesides
import Derived.Handy
import Derived.Deep.RegionHeld3
import Derived.Deep.DeepCutAuto
import Derived.Deep.QuietTactic
import Derived.BigQuiet
import Derived.Lib.Hide
import Derived.KernelRfl
import Derived.WalkMore
import Derived.Deep.LoopGhost
import Derived.IntWalk
import Derived.Deep.RegionLaw
import Derived.RangeFuncBox
import Derived.Test.YtmfdlcicbiincaaDoorK18
namespace Go.Proofs.YtmfdlcicbiincaaDoor
open Go.RowKit


/-- One of the first i of the list is a. -/
def rdB (fs : List Int) (a i : Nat) : Bool := decide ((a : Int) ∈ fs.take i)
theorem rdB_succ {fs : List Int} {a i : Nat} (hi : i < fs.length) : rdB fs a (i + 1) = (rdB fs a i || fs.getD i 0 == (a : Int)) := by
  unfold rdB
  rw [take_int hi]
  obtain ⟨x, hu⟩ : ∃ u, fs.getD i 0 = u := ⟨_, rfl⟩
  rw [hu]
  by_cases h1 : (a : Int) ∈ fs.take i
  · simp [h1]
  · by_cases h2 : (a : Int) = x
    · subst h2; simp
    · have h3 : (x == (a : Int)) = false := by simp; exact fun e => h2 e.symm
      simp [h1, h2, h3]
theorem rdB_all {l : List Ev} {a b : Nat} (hb : b < l.length) : rdB (l.getD b default).f a (l.getD b default).f.length = frmB l a b := by
  unfold rdB frmB
  rw [List.take_length]
  simp [hb]
theorem prB_succ {ps : List Pr} {a b i : Nat} (hi : i < ps.length) : prB (ps.take (i + 1)) a b = (prB (ps.take i) a b || ((ps.getD i (0, 0)).1 == (a : Int) && (ps.getD i (0, 0)).2 == (b : Int))) := by
  unfold prB
  rw [take_pr hi]
  obtain ⟨⟨x, y⟩, hu⟩ : ∃ u, ps.getD i (0, 0) = u := ⟨_, rfl⟩
  rw [hu]
  by_cases h1 : ((a : Int), (b : Int)) ∈ ps.take i
  · simp [h1]
  · by_cases h2 : (a : Int) = x
    · subst h2
      by_cases h3 : (b : Int) = y
      · subst h3; simp
      · have h4 : (y == (b : Int)) = false := by simp; exact fun e => h3 e.symm
        simp [h1, h3, h4]
    · have h4 : (x == (a : Int)) = false := by simp; exact fun e => h2 e.symm
      simp [h1, h2, h4]
/-- An event in a box. -/
def BxE (w : World) (b : Nat) (x : ER) : Prop := w.heap[b]? = some (.cells (evL x).toArray 42 (0, 0))
section
variable {w w' : World} {b : Nat} {x : ER}
theorem BxE.plus (h : BxE w b x) (hp : Plus w w') : BxE w' b x := (hp.below.block b (Array.getElem?_eq_some_iff.1 h).1).trans h
theorem BxE.lt (h : BxE w b x) : b < w.heap.size := (Array.getElem?_eq_some_iff.1 h).1
theorem BxE.cells (h : BxE w b x) : w.cell? ⟨b, 0, none⟩ = some (.int .i64 x.e.g) ∧ w.cell? ⟨b, 1, none⟩ = some (.int .i64 x.e.k) ∧ w.cell? ⟨b, 2, none⟩ = some (.bool x.e.s) ∧ w.cell? ⟨b, 3, none⟩ = some (.bool x.e.t) ∧ w.cell? ⟨b, 4, none⟩ = some (.int .i64 x.e.b) ∧ w.cell? ⟨b, 5, none⟩ = some (.int .i64 x.e.a) ∧ w.cell? ⟨b, 6, none⟩ = some (.int .i64 x.e.z) ∧ w.cell? ⟨b, 7, none⟩ = some (.slice x.R x.e.r.length x.cr) ∧ w.cell? ⟨b, 8, none⟩ = some (.slice x.W x.e.w.length x.cw) ∧ w.cell? ⟨b, 9, none⟩ = some (.slice x.F x.e.f.length x.cf) := by
  refine ⟨?_, ?_, ?_, ?_, ?_, ?_, ?_, ?_, ?_, ?_⟩ <;> (rw [cell_of_row w b _ _ _ _ h]; rfl)
theorem BxE.new (w : World) (x : ER) (b : Nat) (hb : b = w.heap.size) : BxE (w.alloc (.cells (evL x).toArray 42)) b x := by
  rw [hb]
  exact World.alloc_heap_new w _
end
end Go.Proofs.YtmfdlcicbiincaaDoor
