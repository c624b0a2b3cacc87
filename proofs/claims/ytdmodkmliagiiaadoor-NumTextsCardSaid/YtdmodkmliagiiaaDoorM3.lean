/- Three numbers multiplied in either order: the plain facts. -/
import Derived.Test.YtdmodkmliagiiaaDoorM2
namespace Go.Proofs.YtdmodkmliagiiaaDoor

theorem isV7 {p q : Int} (h : IsV p q) : (p = 0 ∧ q = 0) ∨ (p = 0 ∧ 0 < q ∧ q ≤ 9007199254740991) ∨ (p = 0 ∧ q < 0 ∧ -9007199254740991 ≤ q) ∨ (p = 1 ∧ q = 0) ∨ (p = 2 ∧ q = 0) ∨ (p = 3 ∧ q = 0) ∨ (p = 4 ∧ q = 0) := by
  unfold IsV at h; omega

set_option maxHeartbeats 20000000 in
theorem mulS_assoc {p q r s t u : Int} (h1 : IsV p q) (h2 : IsV r s) (h3 : IsV t u) (x y a b : Ans) (hx : mulS p q r s = x) (hy : mulS r s t u = y) (ha : mulS x.k x.n t u = a) (hb : mulS p q y.k y.n = b)
    (ox : x.ok = true) (oy : y.ok = true) (oa : a.ok = true) (ob : b.ok = true) : a.k = b.k ∧ a.n = b.n := by
  rcases isV7 h1 with ⟨rfl, rfl⟩ | ⟨rfl, hq, a2⟩ | ⟨rfl, hq, a2⟩ | ⟨rfl, rfl⟩ | ⟨rfl, rfl⟩ | ⟨rfl, rfl⟩ | ⟨rfl, rfl⟩ <;> rcases isV7 h2 with ⟨rfl, rfl⟩ | ⟨rfl, hs, b2⟩ | ⟨rfl, hs, b2⟩ | ⟨rfl, rfl⟩ | ⟨rfl, rfl⟩ | ⟨rfl, rfl⟩ | ⟨rfl, rfl⟩ <;> rcases isV7 h3 with ⟨rfl, rfl⟩ | ⟨rfl, hu, c2⟩ | ⟨rfl, hu, c2⟩ | ⟨rfl, rfl⟩ | ⟨rfl, rfl⟩ | ⟨rfl, rfl⟩ | ⟨rfl, rfl⟩
  all_goals clear h1 h2 h3
  all_goals
    first | (have q0 : ¬ q = 0 := by omega) | skip
    first | (have q1 : ¬ q < 0 := by omega) | skip
    first | (have s0 : ¬ s = 0 := by omega) | skip
    first | (have s1 : ¬ s < 0 := by omega) | skip
    first | (have u0 : ¬ u = 0 := by omega) | skip
    first | (have u1 : ¬ u < 0 := by omega) | skip
    first | (have e1 := Int.mul_pos hq hs) | (have e1 := Int.mul_neg_of_pos_of_neg hq hs) | (have e1 := Int.mul_neg_of_neg_of_pos hq hs) | (have e1 := Int.mul_pos_of_neg_of_neg hq hs) | skip
    first | (have f0 : ¬ q * s = 0 := by omega) | skip
    first | (have f1 : ¬ q * s < 0 := by omega) | skip
    first | (have e2 := Int.mul_pos hs hu) | (have e2 := Int.mul_neg_of_pos_of_neg hs hu) | (have e2 := Int.mul_neg_of_neg_of_pos hs hu) | (have e2 := Int.mul_pos_of_neg_of_neg hs hu) | skip
    first | (have g0 : ¬ s * u = 0 := by omega) | skip
    first | (have g1 : ¬ s * u < 0 := by omega) | skip
    simp [mulS, zeroB, negB, infK, zeroK, *] at hx
    simp [mulS, zeroB, negB, infK, zeroK, *] at hy
    subst hx hy
    first | (have e := ofS_ok ox; rw [e] at ha) | skip
    first | (have e := ofS_ok oy; rw [e] at hb) | skip
    simp [mulS, zeroB, negB, infK, zeroK, *] at ha
    simp [mulS, zeroB, negB, infK, zeroK, *] at hb
    subst ha hb
    first | (simp; done) | (rw [ofS_ok oa, ofS_ok ob]; simp [Int.mul_assoc]; done) | skip
end Go.Proofs.YtdmodkmliagiiaaDoor
