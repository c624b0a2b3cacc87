/- The tokens, plainly: the run over the units. -/
import Derived.Test.YtaigkjffglbknaaDoorA15
namespace Go.Proofs.YtaigkjffglbknaaDoor
open Go.RowKit


/-- Tokens, a place, an error. -/
structure Tr where
  l : List Tk
  a : Nat
  e : Nat
/-- The run from unit a on: has a line ended; what was read. -/
def runM (xs : List Nat) (a : Nat) (nl : Bool) (acc : List Tk) : Nat → Tr
  | 0 => ⟨acc ++ [{ tk0 with a := a, nl := nl }], 0, 0⟩
  | f + 1 =>
    if a < xs.length then
      if (skpM (xs.drop a)).e ≠ 0 then ⟨[], a, (skpM (xs.drop a)).e⟩
      else if 0 < (skpM (xs.drop a)).n then runM xs (a + (skpM (xs.drop a)).n) (nl || (skpM (xs.drop a)).l) acc f
      else if (redM (xs.drop a) (decide (a = 0))).e ≠ 0 then ⟨[], a, (redM (xs.drop a) (decide (a = 0))).e⟩
      else runM xs (a + (redM (xs.drop a) (decide (a = 0))).n) false (acc ++ [{ (redM (xs.drop a) (decide (a = 0))).t with a := a, nl := nl }]) f
    else ⟨acc ++ [{ tk0 with a := a, nl := nl }], 0, 0⟩
def tokM (xs : List Nat) : Tr := if 4096 < xs.length then ⟨[], 0, 3⟩ else runM xs 0 false [] xs.length
theorem plS_size (xs : List Nat) : (plS xs).size ≤ xs.length := by
  unfold plS
  split
  · rw [byts_size]; exact Nat.le_refl _
  · exact Nat.zero_le _
theorem quo_n (ys : List Nat) (i f : Nat) (s : List Nat) : (quoM ys i s f).e = 0 → 0 < (quoM ys i s f).n ∧ (quoM ys i s f).n ≤ ys.length := by
  induction f generalizing i s with
  | zero => intro h; cases h
  | succ f ih =>
    rw [quoM]
    by_cases h1 : i < ys.length
    · rw [if_pos h1]
      by_cases h2 : uAt ys i = uAt ys 0
      · rw [if_pos h2]; intro _; exact ⟨Nat.succ_pos _, h1⟩
      rw [if_neg h2]
      by_cases h3 : isEnd (uAt ys i) = true
      · rw [if_pos h3]; intro h; cases h
      rw [if_neg h3]
      by_cases h4 : uAt ys i ≠ 92
      · rw [if_pos h4]; exact ih _ _
      rw [if_neg h4]
      by_cases h5 : (escM (ys.drop (i + 1))).e ≠ 0
      · rw [if_pos h5]; intro h; exact absurd h h5
      rw [if_neg h5]
      exact ih _ _
    · rw [if_neg h1]; intro h; cases h
theorem signN_empty : signN [] = 0 := by rfl
theorem pun_le (ys : List Nat) (k : Nat) (hk : k ≤ ys.length) : (punM ys k).size ≤ ys.length := by
  induction k with
  | zero => exact Nat.zero_le _
  | succ k ih =>
    rw [punM]
    split
    · exact ih (by omega)
    · split
      · show 1 ≤ _; omega
      · have := plS_size (ys.take (k + 1)); rw [List.length_take] at this; omega
theorem spanL_pos {p : Nat → Bool} {ys : List Nat} (h : 0 < ys.length) (hp : p (uAt ys 0) = true) : 0 < spanL p ys := by
  cases ys with
  | nil => simp at h
  | cons x r => unfold spanL; rw [if_pos (show p x = true from hp)]; omega
theorem uAt_in {ys : List Nat} {i : Nat} (h : uAt ys i ≠ 0) : i < ys.length := by
  apply Nat.lt_of_not_le
  intro hle
  apply h
  unfold uAt
  rw [List.getD_eq_getElem?_getD, List.getElem?_eq_none hle]
  rfl
/-- What is read takes at least a unit, and no more than there are. -/
theorem red_n (ys : List Nat) (z : Bool) (h0 : 0 < ys.length) : (redM ys z).e = 0 → 0 < (redM ys z).n ∧ (redM ys z).n ≤ ys.length := by
  have fl : ∀ e : Nat, e ≠ 0 → (flt e).e = 0 → 0 < (flt e).n ∧ (flt e).n ≤ ys.length := fun e h1 h2 => absurd h2 h1
  unfold redM
  by_cases hl : isLet (uAt ys 0) = true
  · rw [if_pos hl]
    unfold wrdM
    split
    · exact fl 6 (by decide)
    · intro _
      exact ⟨spanL_pos h0 (by unfold isPrt; rw [hl]; rfl), span_le _ _⟩
  rw [if_neg hl]
  by_cases hd : isDig (uAt ys 0) = true
  · rw [if_pos hd]
    have hp := spanL_pos h0 hd
    have hle := span_le isDig ys
    unfold numM
    split
    · exact fl 5 (by decide)
    split
    · rename_i _ h110
      unfold bigM
      split
      · split
        · exact fl 5 (by decide)
        · intro _
          refine ⟨Nat.succ_pos _, ?_⟩
          show (plS (ys.take (spanL isDig ys))).size + 1 ≤ ys.length
          have h1 := plS_size (ys.take (spanL isDig ys))
          rw [List.length_take] at h1
          have h2 : spanL isDig ys < ys.length := uAt_in (by rw [h110]; decide)
          omega
      · exact fl 6 (by decide)
    split
    · exact fl 6 (by decide)
    split
    · exact fl 5 (by decide)
    split
    · intro _; exact ⟨hp, hle⟩
    · exact fl 6 (by decide)
  rw [if_neg hd]
  by_cases hq : isQuo (uAt ys 0) = true
  · rw [if_pos hq]; exact quo_n _ _ _ _
  rw [if_neg hq]
  by_cases hdot : uAt ys 0 = 46 ∧ isDig (uAt ys 1) = true
  · rw [if_pos hdot]; exact fl 6 (by decide)
  rw [if_neg hdot]
  by_cases hs : (punM ys (min 4 ys.length)).data.toList ≠ []
  · rw [if_pos hs]
    unfold sgnM
    split
    · exact fl 6 (by decide)
    · intro _
      refine ⟨?_, pun_le _ _ (Nat.min_le_right _ _)⟩
      show 0 < (punM ys (min 4 ys.length)).size
      rcases Nat.eq_zero_or_pos (punM ys (min 4 ys.length)).size with h | h
      · exact absurd (List.eq_nil_of_length_eq_zero (by simpa using h)) hs
      · exact h
  rw [if_neg hs]
  split
  · exact fl 6 (by decide)
  · exact fl 5 (by decide)
theorem skp_n (ys : List Nat) (h0 : 0 < ys.length) : (skpM ys).n ≤ ys.length := by
  have hc : ∀ u : List Nat, u.length ≤ ys.length → (cmtM u).n ≤ ys.length := fun u hu => by
    unfold cmtM
    split
    · exact Nat.zero_le _
    · split
      · exact Nat.zero_le _
      · exact hu
  unfold skpM
  split
  · exact h0
  split
  · exact h0
  split
  · exact hc _ (by rw [List.length_take]; omega)
  split
  · exact hc _ (by rw [List.length_take]; omega)
  · exact Nat.zero_le _
end Go.Proofs.YtaigkjffglbknaaDoor
