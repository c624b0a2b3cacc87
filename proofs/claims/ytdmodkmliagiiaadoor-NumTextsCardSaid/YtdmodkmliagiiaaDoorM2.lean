/- Three numbers in either order: the plain facts. -/
import Derived.Test.YtdmodkmliagiiaaDoorS
namespace Go.Proofs.YtdmodkmliagiiaaDoor

theorem ofS_ok {n : Int} (h : (ofS n).ok = true) : ofS n = ⟨0, n, true⟩ := by
  unfold ofS at h ⊢
  split
  · rfl
  · rename_i h'; rw [if_neg h'] at h; cases h
theorem ofS_isV (n : Int) : IsV (ofS n).k (ofS n).n := by
  unfold ofS
  split
  · rename_i h; exact .inl ⟨rfl, h.1, h.2⟩
  · unfold IsV; simp
theorem addS_isV {p q r s : Int} (h1 : IsV p q) (h2 : IsV r s) : IsV (addS p q r s).k (addS p q r s).n := by
  unfold addS
  split
  · unfold IsV; simp
  · split
    · exact h1
    · split
      · exact h2
      · split
        · unfold IsV; simp
        · exact ofS_isV _
theorem addR_isV (k n l m : Int) : IsV (addR k n l m).k (addR k n l m).n := addS_isV (isV_v k n) (isV_v l m)

theorem addS_assoc {p q r s t u : Int} (h1 : IsV p q) (h2 : IsV r s) (h3 : IsV t u) (x y a b : Ans) (hx : addS p q r s = x) (hy : addS r s t u = y) (ha : addS x.k x.n t u = a) (hb : addS p q y.k y.n = b)
    (ox : x.ok = true) (oy : y.ok = true) (oa : a.ok = true) (ob : b.ok = true) : a.k = b.k ∧ a.n = b.n := by
  rcases h1 with ⟨rfl, a1, a2⟩ | ⟨rfl, rfl⟩ | ⟨rfl, rfl⟩ | ⟨rfl, rfl⟩ | ⟨rfl, rfl⟩ <;> rcases h2 with ⟨rfl, b1, b2⟩ | ⟨rfl, rfl⟩ | ⟨rfl, rfl⟩ | ⟨rfl, rfl⟩ | ⟨rfl, rfl⟩ <;> rcases h3 with ⟨rfl, c1, c2⟩ | ⟨rfl, rfl⟩ | ⟨rfl, rfl⟩ | ⟨rfl, rfl⟩ | ⟨rfl, rfl⟩
  all_goals
    simp [addS] at hx hy
    subst hx hy
    first | (have e := ofS_ok ox; rw [e] at ha) | skip
    first | (have e := ofS_ok oy; rw [e] at hb) | skip
    simp [addS] at ha hb
    subst ha hb
    first | (simp; done) | (rw [ofS_ok oa, ofS_ok ob]; simp; done) | (rw [ofS_ok oa, ofS_ok ob]; simp; omega) | (simp_all; done) | skip
end Go.Proofs.YtdmodkmliagiiaaDoor
