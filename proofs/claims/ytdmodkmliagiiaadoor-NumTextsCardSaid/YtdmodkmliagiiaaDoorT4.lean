/- Text and Parse: there and back; sums and products in either order. -/
import Derived.Test.YtdmodkmliagiiaaDoorT3
import Derived.Test.YtdmodkmliagiiaaDoorM4
namespace Go.Proofs.YtdmodkmliagiiaaDoor
open Go.RowKit


theorem atoi_itoa {n : Int} (h1 : -9223372036854775808 ≤ n) (h2 : n ≤ 9223372036854775807) : Lib.atoiAll (Lib.itoa n) = .ok n := by
  by_cases h : n < 0
  · obtain ⟨m, hm⟩ : ∃ m : Nat, n = -(m : Int) := ⟨n.natAbs, by omega⟩
    have e : Lib.itoa n = 45 :: Lib.decDigits m := by
      unfold Lib.itoa
      rw [if_pos h, hm]
      simp
    rw [e]
    have hp : Lib.parseMag (Lib.decDigits m) = .ok m := by
      unfold Lib.parseMag
      rw [if_neg (dd_ne m)]
      by_cases q : m ≤ 9223372036854775807
      · have := pu_all m q []
        rw [List.append_nil] at this
        rw [this]
        rfl
      · obtain rfl : m = 9223372036854775808 := by omega
        have e2 : Lib.decDigits 9223372036854775808 = Lib.decDigits 922337203685477580 ++ [UInt8.ofNat (48 + 8)] := by
          rw [Lib.decDigits, dif_neg (by decide)]
        rw [e2, pu_all _ (by decide)]
        show Lib.parseUint10 922337203685477580 (UInt8.ofNat (48 + 8) :: []) = _
        have e3 : (UInt8.ofNat (48 + 8)).toNat = 56 := by decide
        rw [Lib.parseUint10, e3, if_pos (by omega), if_neg (by omega), if_neg (by omega)]
        rfl
    unfold Lib.atoiAll
    simp only
    rw [if_pos (.inr (by decide)), hp]
    simp only
    rw [if_neg (by rintro ⟨q, _⟩; exact q (by decide)), if_neg (by rintro ⟨_, q⟩; omega), if_pos (by decide), hm]
  · obtain ⟨m, hm⟩ : ∃ m : Nat, n = (m : Int) := ⟨n.toNat, by omega⟩
    rw [hm, Lib.itoa_nonneg]
    exact atoi_all (by omega)
theorem itoa_head {n : Int} (c : UInt8) (r : List UInt8) (hc : c ≠ 45) (hd : c.toNat < 48 ∨ 57 < c.toNat) : Lib.itoa n ≠ c :: r := by
  by_cases h : n < 0
  · unfold Lib.itoa
    rw [if_pos h]
    intro e
    injection e with e _
    exact hc e.symm
  · obtain ⟨m, hm⟩ : ∃ m : Nat, n = (m : Int) := ⟨n.toNat, by omega⟩
    rw [hm, Lib.itoa_nonneg]
    exact not_name (dd_dig m) c r hd
theorem itoa_inf {n : Int} : Lib.itoa n ≠ [45, 73, 110, 102, 105, 110, 105, 116, 121] := by
  by_cases h : n < 0
  · unfold Lib.itoa
    rw [if_pos h]
    intro e
    injection e with _ e
    exact not_name (dd_dig _) 73 _ (by decide) e
  · obtain ⟨m, hm⟩ : ∃ m : Nat, n = (m : Int) := ⟨n.toNat, by omega⟩
    rw [hm, Lib.itoa_nonneg]
    exact not_name (dd_dig m) 45 _ (by decide)
theorem par_itoa {n : Int} (h1 : -9223372036854775808 ≤ n) (h2 : n ≤ 9223372036854775807) : parS (Lib.itoa n) = ofS n := by
  unfold parS
  rw [if_neg (itoa_head 78 _ (by decide) (by decide)), if_neg (itoa_head 73 _ (by decide) (by decide)), if_neg itoa_inf, atoi_itoa h1 h2]
  simp
/-- A number's text. -/
def txtS (p q : Int) : List UInt8 := if p = 2 then [78, 97, 78] else if p = 3 then [73, 110, 102, 105, 110, 105, 116, 121] else if p = 4 then [45, 73, 110, 102, 105, 110, 105, 116, 121] else Lib.itoa q
def txtR (k n : Int) : List UInt8 := txtS (vk k n) (vn k n)
theorem par_txt {p q : Int} (h : IsV p q) : (p = 1 ∧ parS (txtS p q) = ⟨0, 0, true⟩) ∨ (p ≠ 1 ∧ parS (txtS p q) = ⟨p, q, true⟩) := by
  rcases h with ⟨rfl, h1, h2⟩ | ⟨rfl, rfl⟩ | ⟨rfl, rfl⟩ | ⟨rfl, rfl⟩ | ⟨rfl, rfl⟩
  · right
    refine ⟨by decide, ?_⟩
    unfold txtS
    rw [if_neg (by decide), if_neg (by decide), if_neg (by decide), par_itoa (by omega) (by omega)]
    unfold ofS
    rw [if_pos ⟨h1, h2⟩]
  · left
    refine ⟨rfl, ?_⟩
    unfold txtS
    rw [if_neg (by decide), if_neg (by decide), if_neg (by decide), par_itoa (by decide) (by decide)]
    rfl
  · exact .inr ⟨by decide, rfl⟩
  · exact .inr ⟨by decide, rfl⟩
  · exact .inr ⟨by decide, rfl⟩
theorem txt_size {p q : Int} (h : IsV p q) : (⟨(txtS p q).toArray⟩ : ByteArray).size ≤ 1000 := by
  have hd : ∀ (k m : Nat), m < 10 ^ (k + 1) → (Lib.decDigits m).length ≤ k + 1 := by
    intro k
    induction k with
    | zero => intro m h; rw [Lib.decDigits_one (by simpa using h)]; simp
    | succ k ih =>
      intro m h
      by_cases q : m < 10
      · rw [Lib.decDigits_one q]; simp
      · rw [Lib.decDigits, dif_neg q, List.length_append]
        have := ih (m / 10) (by rw [Nat.pow_succ] at h; omega)
        simp
        omega
  have hi : -9007199254740991 ≤ q → q ≤ 9007199254740991 → (Lib.itoa q).length ≤ 100 := fun h1 h2 => by
    unfold Lib.itoa
    split
    · have := hd 19 q.natAbs (by omega)
      simp
      omega
    · have := hd 19 q.toNat (by omega)
      omega
  show (txtS p q).toArray.size ≤ 1000
  simp only [List.size_toArray]
  rcases h with ⟨rfl, h1, h2⟩ | ⟨rfl, rfl⟩ | ⟨rfl, rfl⟩ | ⟨rfl, rfl⟩ | ⟨rfl, rfl⟩
  · have := hi h1 h2
    unfold txtS
    rw [if_neg (by decide), if_neg (by decide), if_neg (by decide)]
    omega
  · have := hi (by decide) (by decide)
    unfold txtS
    rw [if_neg (by decide), if_neg (by decide), if_neg (by decide)]
    omega
  · decide
  · decide
  · decide
theorem add_comm' {p q r s : Int} (h1 : IsV p q) (h2 : IsV r s) : addS p q r s = addS r s p q := by
  rcases isV6 h1 with ⟨rfl, rfl⟩ | ⟨rfl, q0, a1, a2⟩ | ⟨rfl, rfl⟩ | ⟨rfl, rfl⟩ | ⟨rfl, rfl⟩ | ⟨rfl, rfl⟩ <;> rcases isV6 h2 with ⟨rfl, rfl⟩ | ⟨rfl, s0, b1, b2⟩ | ⟨rfl, rfl⟩ | ⟨rfl, rfl⟩ | ⟨rfl, rfl⟩ | ⟨rfl, rfl⟩ <;> simp [addS, Int.add_comm]
set_option maxHeartbeats 4000000 in
theorem mul_comm' {p q r s : Int} (h1 : IsV p q) (h2 : IsV r s) : mulS p q r s = mulS r s p q := by
  rcases isV7 h1 with ⟨rfl, rfl⟩ | ⟨rfl, hq, a2⟩ | ⟨rfl, hq, a2⟩ | ⟨rfl, rfl⟩ | ⟨rfl, rfl⟩ | ⟨rfl, rfl⟩ | ⟨rfl, rfl⟩ <;> rcases isV7 h2 with ⟨rfl, rfl⟩ | ⟨rfl, hs, b2⟩ | ⟨rfl, hs, b2⟩ | ⟨rfl, rfl⟩ | ⟨rfl, rfl⟩ | ⟨rfl, rfl⟩ | ⟨rfl, rfl⟩
  all_goals clear h1 h2
  all_goals
    first | (have q0 : ¬ q = 0 := by omega) | skip
    first | (have q1 : ¬ q < 0 := by omega) | skip
    first | (have q2 : ¬ 0 < q := by omega) | skip
    first | (have s0 : ¬ s = 0 := by omega) | skip
    first | (have s1 : ¬ s < 0 := by omega) | skip
    simp [mulS, zeroB, negB, infK, zeroK, Int.mul_comm, *]
theorem ofS_V (n : Int) : IsV (ofS n).k (ofS n).n := by
  unfold ofS
  split
  · exact .inl ⟨rfl, by assumption⟩
  · exact .inr (.inr (.inl ⟨rfl, rfl⟩))
theorem add_V {p q r s : Int} (h1 : IsV p q) (h2 : IsV r s) : IsV (addS p q r s).k (addS p q r s).n := by
  unfold addS
  split
  · exact .inr (.inr (.inl ⟨rfl, rfl⟩))
  · split
    · exact h1
    · split
      · exact h2
      · split
        · exact .inr (.inl ⟨rfl, rfl⟩)
        · exact ofS_V _
theorem mul_V {p q r s : Int} : IsV (mulS p q r s).k (mulS p q r s).n := by
  unfold mulS
  split
  · unfold IsV; simp
  · split
    · unfold infK; split <;> (unfold IsV; simp)
    · split
      · unfold zeroK; split <;> (unfold IsV; simp)
      · exact ofS_V _
theorem rem_V {p q r s : Int} (h1 : IsV p q) (h2 : IsV r s) : IsV (remS p q r s).k (remS p q r s).n := by
  unfold remS
  split
  · unfold IsV; simp
  · rename_i g1
    split
    · exact h1
    · rename_i g2
      split
      · unfold zeroK; split <;> (unfold IsV; simp)
      · left
        have hs : s ≠ 0 := fun e => g1 (by
          simp only [zeroB, e]
          rcases h2 with ⟨rfl, _⟩ | ⟨rfl, _⟩ | ⟨rfl, _⟩ | ⟨rfl, _⟩ | ⟨rfl, _⟩
          · simp
          · simp
          · simp
          · exact absurd (.inl rfl) g2
          · exact absurd (.inr (.inl rfl)) g2)
        have hb : -9007199254740991 ≤ q ∧ q ≤ 9007199254740991 := by rcases h1 with ⟨_, h⟩ | ⟨_, h⟩ | ⟨_, h⟩ | ⟨_, h⟩ | ⟨_, h⟩ <;> omega
        have h3 : (q.tmod s).natAbs ≤ q.natAbs := by rw [Int.natAbs_tmod]; exact Nat.mod_le _ _
        exact ⟨rfl, (by show -9007199254740991 ≤ q.tmod s; omega), (by show q.tmod s ≤ 9007199254740991; omega)⟩
/-- What is added is taken away again. -/
theorem add_back {q s : Int} (h1 : IsV 0 q) (h2 : IsV 0 s) (ho : (addS 0 q 0 s).ok = true) : (addS 0 q 0 s) = ⟨0, q + s, true⟩ ∧ -9007199254740991 ≤ q + s ∧ q + s ≤ 9007199254740991 ∧ addS 0 (q + s) (negS 0 s).k (negS 0 s).n = ⟨0, q, true⟩ := by
  have b1 : -9007199254740991 ≤ q ∧ q ≤ 9007199254740991 := by rcases h1 with ⟨_, h⟩ | ⟨h, _⟩ | ⟨h, _⟩ | ⟨h, _⟩ | ⟨h, _⟩ <;> first | exact h | cases h
  have e : addS 0 q 0 s = ofS (q + s) := by simp [addS]
  rw [e] at ho ⊢
  unfold ofS at ho ⊢
  by_cases g : -9007199254740991 ≤ q + s ∧ q + s ≤ 9007199254740991
  · rw [if_pos g]
    refine ⟨rfl, g.1, g.2, ?_⟩
    by_cases hs : s = 0
    · subst hs
      have e2 : negS 0 0 = ⟨1, 0⟩ := by simp [negS]
      rw [e2]
      simp [addS, ofS]
      omega
    · have e2 : negS 0 s = ⟨0, -s⟩ := by simp [negS, hs]
      rw [e2]
      have e3 : q + s + -s = q := by omega
      simp [addS, ofS, e3]
      omega
  · rw [if_neg g] at ho; cases ho
end Go.Proofs.YtdmodkmliagiiaaDoor
