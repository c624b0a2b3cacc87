/- Heads, plainly. -/
import Derived.Lib.Hide
import Derived.Test.YtmfdlcicbiincaaDoorMV
namespace Go.Proofs.YtmfdlcicbiincaaDoor
open Go.RowKit


theorem snc_take {l : List Ev} {ps : List Pr} {N a b : Nat} (ha : a < N) (hb : b < N) (hN : N ≤ l.length) : sncB (l.take N) (ps.filter (amB N)) a b = sncB l ps a b := by
  unfold sncB synB
  rw [frm_take hb hN, getD_takeE ha, getD_takeE hb]
  have e2 : prB (ps.filter (amB N)) a b = prB ps a b := by
    unfold prB
    simp only [decide_eq_decide, List.mem_filter]
    constructor
    · exact fun h => h.1
    · intro h
      refine ⟨h, ?_⟩
      unfold amB amongM
      simp
      omega
  rw [e2]
section
variable {l : List Ev} {ps : List Pr} {N r : Nat}
theorem frA_take (hr : r < N) (i : Nat) : frA (l.take N) r i = frA l r i := by
  unfold frA
  rw [getD_takeE hr]
theorem coh_take (h : MayP l ps) (hN : N ≤ l.length) (hr : r < N) : CohP (l.take N) (befB (l.take N) (ps.filter (amB N))) r ↔ CohP l (befB l ps) r := by
  unfold CohP CoiP CovP
  rw [getD_takeE hr]
  have q : ∀ i v, v < r → ((frA (l.take N) r i < v ∧ wrAt ((l.take N).getD v default) (l.getD r default).b ((l.getD r default).a + i) = true ∧ befB (l.take N) (ps.filter (amB N)) v r = true ∧ (frA (l.take N) r i = -1 ∨ befB (l.take N) (ps.filter (amB N)) (frA (l.take N) r i).toNat v = true)) ↔ (frA l r i < v ∧ wrAt (l.getD v default) (l.getD r default).b ((l.getD r default).a + i) = true ∧ befB l ps v r = true ∧ (frA l r i = -1 ∨ befB l ps (frA l r i).toNat v = true))) := fun i v hv => by
    rw [frA_take hr, getD_takeE (show v < N by omega), bef_take h hr hN, bef_take h (show v < N by omega) hN]
  constructor
  · rintro ⟨i, hi, v, hv, k⟩
    exact ⟨i, hi, v, hv, (q i v hv).1 k⟩
  · rintro ⟨i, hi, v, hv, k⟩
    exact ⟨i, hi, v, hv, (q i v hv).2 k⟩
theorem who_take (h : MayP l ps) (hN : N ≤ l.length) (hr : r < N) {i : Nat} (hi : i < (l.getD r default).f.length) : WhoP (l.take N) r (frA l r i) ↔ WhoP l r (frA l r i) := by
  unfold WhoP
  have hf := from_lt h (show r < l.length by omega) hi
  by_cases e : frA l r i = -1
  · exact ⟨fun k => absurd e k.1, fun k => absurd e k.1⟩
  · unfold frA at e ⊢
    rw [getD_takeE hr, getD_takeE (show ((l.getD r default).f.getD i 0).toNat < N by omega)]
theorem tear_take (h : MayP l ps) (hN : N ≤ l.length) (hr : r < N) : TearP (l.take N) r ↔ TearP l r := by
  unfold TearP
  rw [getD_takeE hr]
  constructor
  · rintro ⟨k, i, j, hi, hj, h1, h2, h3⟩
    rw [frA_take hr] at h1 h3
    rw [frA_take hr] at h2 h3
    exact ⟨k, i, j, hi, hj, (who_take h hN hr hi).1 h1, (who_take h hN hr hj).1 h2, h3⟩
  · rintro ⟨k, i, j, hi, hj, h1, h2, h3⟩
    refine ⟨k, i, j, hi, hj, ?_, ?_, ?_⟩
    · rw [frA_take hr]; exact (who_take h hN hr hi).2 h1
    · rw [frA_take hr]; exact (who_take h hN hr hj).2 h2
    · rw [frA_take hr, frA_take hr]; exact h3
theorem ato_take (h : MayP l ps) (hN : N ≤ l.length) (hr : r < N) (k : AtoP (l.take N) (sncB (l.take N) (ps.filter (amB N))) (befB (l.take N) (ps.filter (amB N))) (natL N) N r) : AtoP l (sncB l ps) (befB l ps) (natL l.length) l.length r := by
  obtain ⟨i, hi, w, p, q, hp, hq, h1, h2, h3, h4, x, x1, x2, x3⟩ := k
  rw [getD_takeE hr] at hi
  rw [frA_take hr] at h1
  rw [natL_at hp] at h3
  rw [natL_at hq] at h4
  obtain rfl : p = w := by omega
  obtain rfl : q = r := by omega
  rw [bef_take h hr hN] at h2
  rw [natL_at (by omega)] at x3
  refine ⟨i, hi, p, p, q, by omega, by omega, h1, h2, natL_at (by omega), natL_at (by omega), x, x1, x2, ?_⟩
  rw [natL_at (by omega)]
  obtain ⟨y1, y2, y3⟩ := x3
  simp only [Int.toNat_natCast] at y1 y2 y3 ⊢
  rw [getD_takeE (show x < N by omega)] at y1 y2 y3
  rw [getD_takeE (show p < N by omega), getD_takeE hr, snc_take (show p < N by omega) hr hN, bef_take h hr hN, bef_take h (show x < N by omega) hN] at y3
  exact ⟨y1, y2, y3⟩
theorem vld_take (h : MayP l ps) (hN : N ≤ l.length) (k : VldP l ps l.length (natL l.length)) : VldP (l.take N) (ps.filter (amB N)) N (natL N) :=
  ⟨⟨fun r hr q => k.1.1 r (by omega) ((coh_take h hN hr).1 q), fun r hr q => k.1.2 r (by omega) ((tear_take h hN hr).1 q)⟩, natL_ord (may_head h hN), fun r hr q => k.2.2 r (by omega) (ato_take h hN hr q)⟩
end
/-- How the first of a head and of the whole stand. -/
def TwoF (N : Nat) (c u : Int) : Prop := (c = -1 ∧ u = -1) ∨ (∃ r : Nat, c = r ∧ u = r ∧ r < N) ∨ ∃ r : Nat, c = r ∧ u = -1 ∧ N ≤ r
theorem two_f {n N : Nat} {P Q : Nat → Prop} {c u : Int} (hc : Fst n P c) (hu : Fst N Q u) (hN : N ≤ n) (he : ∀ r, r < N → (Q r ↔ P r)) : TwoF N c u := by
  rcases hu with ⟨h1, h2⟩ | ⟨r, h1, h2, h3, h4⟩
  · rcases hc with ⟨k1, k2⟩ | ⟨s, k1, k2, k3, k4⟩
    · exact .inl ⟨k1, h1⟩
    · refine .inr (.inr ⟨s, k2, h1, ?_⟩)
      apply Nat.le_of_not_lt
      exact fun q => h2 s q ((he s q).2 k3)
  · refine .inr (.inl ⟨r, ?_, h2, h1⟩)
    exact hc.hit (by omega) ((he r h1).1 h3) (fun q hq k => h4 q hq ((he q (by omega)).2 k))
end Go.Proofs.YtmfdlcicbiincaaDoor
