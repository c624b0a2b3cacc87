/- The document's Loose. -/
import Derived.Test.YtakahpbondaidaaGreatDoorYI
namespace Go.Proofs.YtakahpbondaidaaGreatDoor
open Go.RowKit

theorem BxO.set7 {W : World} {b : Nat} {a0 a1 a2 a3 a4 a5 a6 v0 v1 v2 v3 v4 v5 v6 : Value} (h : BxO W b #[a0, a1, a2, a3, a4, a5, a6]) : BxO (((((((W.setCell ⟨b, 0, none⟩ v0).setCell ⟨b, 1, none⟩ v1).setCell ⟨b, 2, none⟩ v2).setCell ⟨b, 3, none⟩ v3).setCell ⟨b, 4, none⟩ v4).setCell ⟨b, 5, none⟩ v5).setCell ⟨b, 6, none⟩ v6) b #[v0, v1, v2, v3, v4, v5, v6] := by
  have h2 := ((((((h.set 0 v0).set 1 v1).set 2 v2).set 3 v3).set 4 v4).set 5 v5).set 6 v6
  simpa using h2
theorem BxO.set7_ne {W : World} {b c : Nat} {cs : Array Value} {v0 v1 v2 v3 v4 v5 v6 : Value} (h : BxO W c cs) (hne : b ≠ c) : BxO (((((((W.setCell ⟨b, 0, none⟩ v0).setCell ⟨b, 1, none⟩ v1).setCell ⟨b, 2, none⟩ v2).setCell ⟨b, 3, none⟩ v3).setCell ⟨b, 4, none⟩ v4).setCell ⟨b, 5, none⟩ v5).setCell ⟨b, 6, none⟩ v6) c cs :=
  (((((((h.set_ne hne 0 v0).set_ne hne 1 v1).set_ne hne 2 v2).set_ne hne 3 v3).set_ne hne 4 v4).set_ne hne 5 v5).set_ne hne 6 v6)
theorem Plus.set7 {w W : World} {b : Nat} {v0 v1 v2 v3 v4 v5 v6 : Value} (h : Plus w W) (hb : w.heap.size ≤ b) : Plus w (((((((W.setCell ⟨b, 0, none⟩ v0).setCell ⟨b, 1, none⟩ v1).setCell ⟨b, 2, none⟩ v2).setCell ⟨b, 3, none⟩ v3).setCell ⟨b, 4, none⟩ v4).setCell ⟨b, 5, none⟩ v5).setCell ⟨b, 6, none⟩ v6) :=
  (((((((h.setCell (p := ⟨b, 0, none⟩) hb v0).setCell (p := ⟨b, 1, none⟩) hb v1).setCell (p := ⟨b, 2, none⟩) hb v2).setCell (p := ⟨b, 3, none⟩) hb v3).setCell (p := ⟨b, 4, none⟩) hb v4).setCell (p := ⟨b, 5, none⟩) hb v5).setCell (p := ⟨b, 6, none⟩) hb v6)
theorem Offp.set {W0 W : World} {b i : Nat} {v : Value} (h0 : Offp W0 W) (hb : ∃ o, W0.heap[b]? = some o ∧ NoU o) : Offp W0 (W.setCell ⟨b, i, none⟩ v) := by
  refine ⟨by rw [World.size_setCell]; exact h0.1, fun k hk => ?_⟩
  by_cases e : b = k
  · subst e
    exact .inr hb
  · have : (W.setCell ⟨b, i, none⟩ v).heap[k]? = W.heap[k]? := by
      unfold World.setCell
      simp only
      rw [Array.getElem?_modify, if_neg e]
    rw [this]
    exact h0.2 k hk
theorem Offp.set7 {W0 W : World} {b : Nat} {v0 v1 v2 v3 v4 v5 v6 : Value} (h : Offp W0 W) (hb : ∃ o, W0.heap[b]? = some o ∧ NoU o) : Offp W0 (((((((W.setCell ⟨b, 0, none⟩ v0).setCell ⟨b, 1, none⟩ v1).setCell ⟨b, 2, none⟩ v2).setCell ⟨b, 3, none⟩ v3).setCell ⟨b, 4, none⟩ v4).setCell ⟨b, 5, none⟩ v5).setCell ⟨b, 6, none⟩ v6) :=
  (((((((h.set hb).set hb).set hb).set hb).set hb).set hb).set hb)
end Go.Proofs.YtakahpbondaidaaGreatDoor
