/- Signs: the plain facts. -/
import Derived.Test.YtdmodkmliagiiaaDoorM3
namespace Go.Proofs.YtdmodkmliagiiaaDoor

theorem negS_isV {p q : Int} (h : IsV p q) : IsV (negS p q).k (negS p q).n := by
  rcases isV6 h with ⟨rfl, rfl⟩ | ⟨rfl, h0, h1, h2⟩ | ⟨rfl, rfl⟩ | ⟨rfl, rfl⟩ | ⟨rfl, rfl⟩ | ⟨rfl, rfl⟩
  · simp [negS, IsV]
  · simp [negS, IsV, h0]; omega
  · simp [negS, IsV]
  · simp [negS, IsV]
  · simp [negS, IsV]
  · simp [negS, IsV]
theorem neg_twice {p q : Int} (h : IsV p q) : negS (negS p q).k (negS p q).n = ⟨p, q⟩ := by
  rcases isV6 h with ⟨rfl, rfl⟩ | ⟨rfl, h0, h1, h2⟩ | ⟨rfl, rfl⟩ | ⟨rfl, rfl⟩ | ⟨rfl, rfl⟩ | ⟨rfl, rfl⟩ <;> simp [negS, *]

theorem ofS_neg {n m : Int} (hm : m = -n) (h : ¬ n = 0) : (ofS m).ok = (ofS n).ok ∧ negS (ofS n).k (ofS n).n = ⟨(ofS m).k, (ofS m).n⟩ := by
  subst hm
  unfold ofS
  by_cases h1 : -9007199254740991 ≤ n ∧ n ≤ 9007199254740991
  · have h2 : -9007199254740991 ≤ -n ∧ -n ≤ 9007199254740991 := by omega
    rw [if_pos h1, if_pos h2]
    simp [negS, h]
  · have h2 : ¬ (-9007199254740991 ≤ -n ∧ -n ≤ 9007199254740991) := by omega
    rw [if_neg h1, if_neg h2]
    simp [negS]

set_option maxHeartbeats 8000000 in
/-- A product's sign turns with one of its sides. -/
theorem mul_neg {p q r s : Int} (h1 : IsV p q) (h2 : IsV r s) (x y : Ans) (hx : mulS p q r s = x) (hy : mulS (negS p q).k (negS p q).n r s = y) : y.ok = x.ok ∧ negS x.k x.n = ⟨y.k, y.n⟩ := by
  rcases isV7 h1 with ⟨rfl, rfl⟩ | ⟨rfl, hq, a2⟩ | ⟨rfl, hq, a2⟩ | ⟨rfl, rfl⟩ | ⟨rfl, rfl⟩ | ⟨rfl, rfl⟩ | ⟨rfl, rfl⟩ <;> rcases isV7 h2 with ⟨rfl, rfl⟩ | ⟨rfl, hs, b2⟩ | ⟨rfl, hs, b2⟩ | ⟨rfl, rfl⟩ | ⟨rfl, rfl⟩ | ⟨rfl, rfl⟩ | ⟨rfl, rfl⟩
  all_goals clear h1 h2
  all_goals
    first | (have q0 : ¬ q = 0 := by omega) | skip
    first | (have q1 : ¬ q < 0 := by omega) | skip
    first | (have q2 : ¬ 0 < q := by omega) | skip
    first | (have s0 : ¬ s = 0 := by omega) | skip
    first | (have s1 : ¬ s < 0 := by omega) | skip
    simp [mulS, zeroB, negB, infK, zeroK, *] at hx
    simp [mulS, negS, zeroB, negB, infK, zeroK, *] at hy
    subst hx hy
    first | (simp [negS]; done) | (exact ofS_neg (by rw [Int.neg_mul]) (Int.mul_ne_zero q0 s0)) | skip

theorem add_neg_whole (q s : Int) : (ofS (-q + -s)).ok = (ofS (q + s)).ok ∧ (negS (ofS (q + s)).k (ofS (q + s)).n = ⟨(ofS (-q + -s)).k, (ofS (-q + -s)).n⟩ ∨ ((ofS (q + s)).n = 0 ∧ ((ofS (q + s)).k = 0 ∨ (ofS (q + s)).k = 1))) := by
  by_cases h : q + s = 0
  · have h' : -q + -s = 0 := by omega
    rw [h, h']
    simp [ofS]
  · have e := ofS_neg (n := q + s) (m := -q + -s) (by omega) h
    exact ⟨e.1, .inl e.2⟩
theorem zero_less {p q : Int} (h : IsV p q) (x : Ans) (hx : addS 0 0 p q = x) : x.ok = true ∧ equalS x.k x.n p q = !(x.k == 2) := by
  subst hx
  rcases isV6 h with ⟨rfl, rfl⟩ | ⟨rfl, h0, h1, h2⟩ | ⟨rfl, rfl⟩ | ⟨rfl, rfl⟩ | ⟨rfl, rfl⟩ | ⟨rfl, rfl⟩ <;> simp [addS, equalS, place, ofS]
  simp [*]

set_option maxHeartbeats 8000000 in
/-- A sum's sign turns with both, but for noughts. -/
theorem add_neg {p q r s : Int} (h1 : IsV p q) (h2 : IsV r s) (x y : Ans) (hx : addS p q r s = x) (hy : addS (negS p q).k (negS p q).n (negS r s).k (negS r s).n = y) : y.ok = x.ok ∧ (negS x.k x.n = ⟨y.k, y.n⟩ ∨ (x.n = 0 ∧ (x.k = 0 ∨ x.k = 1))) := by
  rcases isV6 h1 with ⟨rfl, rfl⟩ | ⟨rfl, q0, a1, a2⟩ | ⟨rfl, rfl⟩ | ⟨rfl, rfl⟩ | ⟨rfl, rfl⟩ | ⟨rfl, rfl⟩ <;> rcases isV6 h2 with ⟨rfl, rfl⟩ | ⟨rfl, s0, b1, b2⟩ | ⟨rfl, rfl⟩ | ⟨rfl, rfl⟩ | ⟨rfl, rfl⟩ | ⟨rfl, rfl⟩
  all_goals clear h1 h2
  all_goals
    simp [addS, *] at hx
    simp [addS, negS, *] at hy
    subst hx hy
    first | (simp [negS]; done) | (simp [negS, ofS]; done) | exact ⟨(ofS_neg rfl q0).1, .inl (ofS_neg rfl q0).2⟩ | exact ⟨(ofS_neg rfl s0).1, .inl (ofS_neg rfl s0).2⟩ | exact add_neg_whole q s
end Go.Proofs.YtdmodkmliagiiaaDoor
