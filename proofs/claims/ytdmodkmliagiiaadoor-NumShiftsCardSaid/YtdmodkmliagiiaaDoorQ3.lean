/- A cell that is there can be written and read again. -/
import Derived.Test.YtdmodkmliagiiaaDoorQ2
namespace Go.Proofs.YtdmodkmliagiiaaDoor
open Go.RowKit
class HasCell (w : World) (n i : Nat) : Prop where out : ∃ u, w.cell? ⟨n, i, none⟩ = some u
instance (w : World) (n i : Nat) (a : Addr) (v : Value) [h : HasCell w n i] : HasCell (w.setCell a v) n i := ⟨by
  obtain ⟨u, hu⟩ := h.out
  obtain ⟨v', hy⟩ := cell?_setCell_some (w := w) (p := a) (x := v) (q := ⟨n, i, none⟩) (v := u) hu
  exact ⟨_, hy⟩⟩
@[go_sem] theorem cell?_setCell_has (w : World) (n i : Nat) (v : Value) [h : HasCell w n i] : (w.setCell ⟨n, i, none⟩ v).cell? ⟨n, i, none⟩ = some v := by
  obtain ⟨u, hu⟩ := h.out
  simp [go_sem, hu]
end Go.Proofs.YtdmodkmliagiiaaDoor
