/- Units ahead of a run that has begun; a remark in the place of a blank. -/
import Derived.Test.YtaigkjffglbknaaDoorQ3
namespace Go.Proofs.YtaigkjffglbknaaDoor
open Go.RowKit


/-- Units ahead, where the run is past its first unit. -/
theorem run_moveN (p xs : List Nat) : ∀ (f a : Nat) (nl : Bool), 0 < a → runM (p ++ xs) (p.length + a) nl [] f = mvR p.length (runM xs a nl [] f) := by
  intro f
  induction f with
  | zero =>
    intro a nl _
    show (⟨_, _, _⟩ : Tr) = mvR _ ⟨_, _, _⟩
    unfold mvR
    simp [mv, Nat.add_comm]
  | succ f ih =>
    intro a nl h0
    rw [runM, runM]
    have ed : (p ++ xs).drop (p.length + a) = xs.drop a := by rw [List.drop_append, List.drop_eq_nil_of_le (by omega), Nat.add_sub_cancel_left, List.nil_append]
    have hr : redM (xs.drop a) (decide (p.length + a = 0)) = redM (xs.drop a) (decide (a = 0)) := by
      rw [decide_eq_false (show ¬ a = 0 by omega), decide_eq_false (by omega)]
    rw [ed, hr]
    by_cases h1 : a < xs.length
    · rw [if_pos h1, if_pos (by rw [List.length_append]; omega)]
      by_cases h2 : (skpM (xs.drop a)).e ≠ 0
      · rw [if_pos h2, if_pos h2, mvR_no h2, Nat.add_comm]
      · rw [if_neg h2, if_neg h2]
        by_cases h3 : 0 < (skpM (xs.drop a)).n
        · rw [if_pos h3, if_pos h3, Nat.add_assoc]; exact ih _ _ (by omega)
        · rw [if_neg h3, if_neg h3]
          by_cases h4 : (redM (xs.drop a) (decide (a = 0))).e ≠ 0
          · rw [if_pos h4, if_pos h4, mvR_no h4, Nat.add_comm]
          · rw [if_neg h4, if_neg h4, run_acc, run_acc xs, Nat.add_assoc, ih _ _ (by omega), mvR_behind]
            congr 1
            simp [mv, Nat.add_comm]
    · rw [if_neg h1, if_neg (by rw [List.length_append]; omega)]
      unfold mvR
      simp [mv, Nat.add_comm]
/-- What stands ahead of a run that has begun doesn't matter. -/
theorem run_head (x y : Nat) (v : List Nat) : ∀ (f a : Nat) (nl : Bool) (acc : List Tk), 0 < a → runM (x :: v) a nl acc f = runM (y :: v) a nl acc f := by
  intro f
  induction f with
  | zero => intro a nl acc _; rfl
  | succ f ih =>
    intro a nl acc h0
    obtain ⟨b, rfl⟩ : ∃ b, a = b + 1 := ⟨a - 1, by omega⟩
    rw [runM, runM]
    simp only [List.drop_succ_cons, List.length_cons]
    by_cases h1 : b + 1 < v.length + 1
    · rw [if_pos h1, if_pos h1]
      by_cases h2 : (skpM (v.drop b)).e ≠ 0
      · rw [if_pos h2, if_pos h2]
      · rw [if_neg h2, if_neg h2]
        by_cases h3 : 0 < (skpM (v.drop b)).n
        · rw [if_pos h3, if_pos h3]; exact ih _ _ _ (by omega)
        · rw [if_neg h3, if_neg h3]
          by_cases h4 : (redM (v.drop b) (decide (b + 1 = 0))).e ≠ 0
          · rw [if_pos h4, if_pos h4]
          · rw [if_neg h4, if_neg h4]; exact ih _ _ _ (by omega)
    · rw [if_neg h1, if_neg h1]
theorem run_lo (xs : List Nat) : ∀ (f a : Nat) (nl : Bool) (acc : List Tk) (b : Nat), b ≤ a → (∀ t ∈ acc, b ≤ t.a) → ∀ t ∈ (runM xs a nl acc f).l, b ≤ t.a := by
  intro f
  induction f with
  | zero =>
    intro a nl acc b h1 h2 t ht
    rw [runM] at ht
    rcases List.mem_append.1 ht with h | h
    · exact h2 t h
    · rw [List.mem_singleton.1 h]; exact h1
  | succ f ih =>
    intro a nl acc b h1 h2 t ht
    rw [runM] at ht
    by_cases g1 : a < xs.length
    · rw [if_pos g1] at ht
      by_cases g2 : (skpM (xs.drop a)).e ≠ 0
      · rw [if_pos g2] at ht; cases ht
      rw [if_neg g2] at ht
      by_cases g3 : 0 < (skpM (xs.drop a)).n
      · rw [if_pos g3] at ht; exact ih _ _ _ b (by omega) h2 t ht
      rw [if_neg g3] at ht
      by_cases g4 : (redM (xs.drop a) (decide (a = 0))).e ≠ 0
      · rw [if_pos g4] at ht; cases ht
      rw [if_neg g4] at ht
      refine ih _ _ _ b (by omega) ?_ t ht
      intro s hs
      rcases List.mem_append.1 hs with h | h
      · exact h2 s h
      · rw [List.mem_singleton.1 h]; exact h1
    · rw [if_neg g1] at ht
      rcases List.mem_append.1 ht with h | h
      · exact h2 t h
      · rw [List.mem_singleton.1 h]; exact h1
theorem begB_ne {x y : Nat} {xs p : List Nat} (h : x ≠ y) : begB (x :: xs) (y :: p) = false := by
  unfold begB
  rw [List.length_cons, List.take_succ_cons]
  exact decide_eq_false fun e => h (by injection e)
/-- Where a remark's second mark stands. -/
theorem blk_rem (v : List Nat) : ∀ (inner pre : List Nat) (f : Nat), 42 ∉ inner → inner.length < f → blkM (pre ++ (inner ++ 42 :: 47 :: v)) pre.length f = pre.length + inner.length + 2 := by
  intro inner
  induction inner with
  | nil =>
    intro pre f _ hf
    obtain ⟨f, rfl⟩ : ∃ k, f = k + 1 := ⟨f - 1, by simp at hf; omega⟩
    rw [blkM, if_pos (by simp), List.nil_append, List.drop_left, if_pos (by unfold begB; exact decide_eq_true rfl)]
    simp
  | cons x inner ih =>
    intro pre f h42 hf
    obtain ⟨f, rfl⟩ : ∃ k, f = k + 1 := ⟨f - 1, by simp at hf; omega⟩
    rw [List.mem_cons, not_or] at h42
    rw [blkM, if_pos (by simp), List.drop_left, List.cons_append, begB_ne (fun e => h42.1 e.symm), if_neg (by decide)]
    have e := ih (pre ++ [x]) f h42.2 (by simp at hf; omega)
    rw [List.append_assoc, List.singleton_append, List.length_append, List.length_singleton] at e
    rw [e, List.length_cons]
    omega
theorem skp_rem (inner v : List Nat) (h42 : 42 ∉ inner) (hs : ∀ x ∈ inner, isSep x = false) : skpM (47 :: 42 :: (inner ++ 42 :: 47 :: v)) = ⟨inner.length + 4, inner.any isEnd, 0⟩ := by
  have e := blk_rem v inner [47, 42] (47 :: 42 :: (inner ++ 42 :: 47 :: v)).length h42 (by simp; omega)
  rw [show [47, 42] ++ (inner ++ 42 :: 47 :: v) = 47 :: 42 :: (inner ++ 42 :: 47 :: v) from rfl, show [47, 42].length = 2 from rfl] at e
  unfold skpM
  rw [if_neg (show ¬ isBlk (uAt (47 :: 42 :: (inner ++ 42 :: 47 :: v)) 0) = true from Bool.false_ne_true), if_neg (show ¬ isEnd (uAt (47 :: 42 :: (inner ++ 42 :: 47 :: v)) 0) = true from Bool.false_ne_true),
    if_neg (by unfold begB; simp), if_pos (by unfold begB; simp), e]
  have et : (47 :: 42 :: (inner ++ 42 :: 47 :: v)).take (2 + inner.length + 2) = 47 :: 42 :: (inner ++ [42, 47]) := by
    rw [show 2 + inner.length + 2 = (inner.length + 2) + 1 + 1 by omega, List.take_succ_cons, List.take_succ_cons, List.take_append, List.take_of_length_le (by omega)]
    rw [show inner.length + 2 - inner.length = 2 by omega]
    rfl
  rw [et]
  unfold cmtM
  have ha : (47 :: 42 :: (inner ++ [42, 47])).any isSep = false := by
    rw [List.any_eq_false]
    intro x hx
    simp only [List.mem_cons, List.mem_append, List.not_mem_nil, or_false] at hx
    rcases hx with rfl | rfl | h | rfl | rfl
    · decide
    · decide
    · rw [hs x h]; decide
    · decide
    · decide
  rw [if_neg (show ¬ (47 :: 42 :: (inner ++ [42, 47])).isEmpty = true from Bool.false_ne_true), ha, if_neg (by decide)]
  have hb : (47 :: 42 :: (inner ++ [42, 47])).any isEnd = inner.any isEnd := by
    simp only [List.any_cons, List.any_append, List.any_nil, Bool.or_false]
    rw [show isEnd 47 = false from rfl, show isEnd 42 = false from rfl]
    simp
  rw [hb]
  simp
theorem sk_c (c : Nat) (v : List Nat) (h : c = 32 ∨ c = 10) : skpM (c :: v) = ⟨1, decide (c = 10), 0⟩ := skp_blank c v h
/-- A remark in the place of a blank, or of a line end. -/
theorem tok_rem (u v inner : List Nat) (c : Nat) (hc : c = 32 ∨ c = 10) (hu : (tokM u).e = 0) (hl : u.length + v.length + inner.length ≤ 4000) (h42 : 42 ∉ inner) (hs : ∀ x ∈ inner, isSep x = false)
    (he : inner.any isEnd = decide (c = 10)) (ho : ∀ a, a < u.length → begB (u.drop a) [47, 47] = false) :
    ∃ (acc : List Tk) (nl : Bool) (R : Tr), tokM u = ⟨acc ++ [{ tk0 with a := u.length, nl := nl }], 0, 0⟩ ∧ tokM (u ++ c :: v) = behind acc (mvR u.length R) ∧
      tokM (u ++ 32 :: 47 :: 42 :: (inner ++ 42 :: 47 :: v)) = behind acc (mvR (u.length + inner.length + 4) R) ∧ (∀ t ∈ acc, t.a ≤ u.length) ∧ (∀ t ∈ R.l, 1 ≤ t.a ∧ t.a ≤ v.length + 1) ∧ R.a ≤ v.length + 1 ∧ acc.length ≤ u.length ∧ R.l.length ≤ v.length + 1 ∧ (R.e ≠ 0 → R.l = []) := by
  have e1 : tokM u = runM u 0 false [] u.length := by unfold tokM; rw [if_neg (by omega)]
  have e2 : tokM (u ++ c :: v) = runM (u ++ c :: v) 0 false [] (u ++ c :: v).length := by unfold tokM; rw [if_neg (by simp; omega)]
  have e3 : tokM (u ++ 32 :: 47 :: 42 :: (inner ++ 42 :: 47 :: v)) = runM (u ++ 32 :: 47 :: 42 :: (inner ++ 42 :: 47 :: v)) 0 false [] (u ++ 32 :: 47 :: 42 :: (inner ++ 42 :: 47 :: v)).length := by unfold tokM; rw [if_neg (by simp; omega)]
  rw [e1] at hu
  obtain ⟨nl, acc, F, q1, q2, q3⟩ := run_app (u := u) (v := v) (c := c) hc (.inr ho) u.length 0 false [] (u ++ c :: v).length hu (by omega) (Nat.zero_le _) (by rw [List.length_append]; omega)
  obtain ⟨nl2, acc2, G, s1, s2, s3⟩ := run_app (u := u) (v := 47 :: 42 :: (inner ++ 42 :: 47 :: v)) (c := 32) (.inl rfl) (.inr ho) u.length 0 false [] (u ++ 32 :: 47 :: 42 :: (inner ++ 42 :: 47 :: v)).length hu (by omega) (Nat.zero_le _) (by rw [List.length_append]; omega)
  have hap := List.append_inj' (s1.symm.trans q1) rfl
  obtain ⟨rfl, hnl⟩ := hap
  obtain rfl : nl2 = nl := by injection hnl with h _; injection h
  have ha := run_ok u u.length 0 false [] hu
  obtain ⟨b1, b2, b3⟩ := run_bd u u.length 0 false [] (Nat.zero_le _) (fun t ht => by simp at ht)
  rw [q1] at b1 b3
  have e4 : tokM u = ⟨acc2 ++ [{ tk0 with a := u.length, nl := nl2 }], 0, 0⟩ := by
    rw [e1]
    generalize runM u 0 false [] u.length = r at hu q1 ha
    obtain ⟨l, a, e⟩ := r
    dsimp only at hu q1 ha
    rw [hu, q1, ha]
  rw [List.length_append, List.length_cons] at q3
  obtain ⟨F, rfl⟩ : ∃ k, F = k + 1 := ⟨F - 1, by omega⟩
  simp only [List.length_append, List.length_cons] at s3
  obtain ⟨G, rfl⟩ : ∃ k, G = k + 2 := ⟨G - 2, by omega⟩
  have ed : (u ++ c :: v).drop u.length = c :: v := List.drop_left
  have ed2 : (u ++ 32 :: 47 :: 42 :: (inner ++ 42 :: 47 :: v)).drop u.length = 32 :: 47 :: 42 :: (inner ++ 42 :: 47 :: v) := List.drop_left
  have ed3 : (u ++ 32 :: 47 :: 42 :: (inner ++ 42 :: 47 :: v)).drop (u.length + 1) = 47 :: 42 :: (inner ++ 42 :: 47 :: v) := by
    rw [← List.drop_drop, ed2]; rfl
  have r1 : runM (u ++ c :: v) u.length nl2 acc2 (F + 1) = runM (u ++ c :: v) (u.length + 1) (nl2 || decide (c = 10)) acc2 F := by
    rw [runM, if_pos (by simp), ed, skp_blank c v hc]
    simp only [ne_eq, not_true_eq_false, if_false, Nat.lt_add_one, if_true]
  have r2 : runM (u ++ 32 :: 47 :: 42 :: (inner ++ 42 :: 47 :: v)) u.length nl2 acc2 (G + 2) = runM (u ++ 32 :: 47 :: 42 :: (inner ++ 42 :: 47 :: v)) (u.length + 1 + (inner.length + 4)) (nl2 || decide (c = 10)) acc2 G := by
    rw [runM, if_pos (by simp), ed2, skp_blank 32 _ (.inl rfl)]
    simp only [ne_eq, not_true_eq_false, if_false, Nat.lt_add_one, if_true]
    rw [runM, if_pos (by simp), ed3, skp_rem inner v h42 hs, he]
    simp
  refine ⟨acc2, nl2, runM (c :: v) 1 (nl2 || decide (c = 10)) [] v.length, e4, ?_, ?_, ?_, ?_, ?_, ?_, ?_, run_no _ _ _ _ _⟩
  · rw [e2, q2, r1, run_acc, run_fuel _ F v.length _ _ _ (by simp; omega) (by simp; omega), run_moveN u (c :: v) _ 1 _ (by omega)]
  · rw [e3, s2, r2, run_acc, run_fuel _ G v.length _ _ _ (by simp; omega) (by simp; omega)]
    have em := run_moveN (u ++ 32 :: 47 :: 42 :: (inner ++ [42])) (47 :: v) v.length 1 (nl2 || decide (c = 10)) (by omega)
    have ea : (u ++ 32 :: 47 :: 42 :: (inner ++ [42])) ++ 47 :: v = u ++ 32 :: 47 :: 42 :: (inner ++ 42 :: 47 :: v) := by simp
    have eb : (u ++ 32 :: 47 :: 42 :: (inner ++ [42])).length = u.length + inner.length + 4 := by simp; omega
    rw [ea, eb] at em
    rw [show u.length + 1 + (inner.length + 4) = u.length + inner.length + 4 + 1 by omega, em, run_head 47 c v _ 1 _ _ (by omega)]
  · intro t ht; exact b1 t (List.mem_append.2 (.inl ht))
  · intro t ht
    refine ⟨run_lo _ _ _ _ _ 1 (Nat.le_refl _) (fun t ht => by simp at ht) t ht, ?_⟩
    have := (run_bd (c :: v) v.length 1 (nl2 || decide (c = 10)) [] (by simp) (fun t ht => by simp at ht)).1 t ht
    simpa using this
  · have := (run_bd (c :: v) v.length 1 (nl2 || decide (c = 10)) [] (by simp) (fun t ht => by simp at ht)).2.1
    simpa using this
  · simp at b3; omega
  · have := (run_bd (c :: v) v.length 1 (nl2 || decide (c = 10)) [] (by simp) (fun t ht => by simp at ht)).2.2
    simp at this; omega
end Go.Proofs.YtaigkjffglbknaaDoor
