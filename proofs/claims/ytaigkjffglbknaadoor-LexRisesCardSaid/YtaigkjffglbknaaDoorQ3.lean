/- What is read of units does not turn with what stands behind them: a blank or a line end. -/
import Derived.Test.YtaigkjffglbknaaDoorQ2
namespace Go.Proofs.YtaigkjffglbknaaDoor
open Go.RowKit


/-- A blank or a line end. -/
def Gap (c : Nat) : Prop := c = 32 ∨ c = 10
theorem app_lt {ys v : List Nat} {c k : Nat} (h : k < ys.length) : uAt (ys ++ c :: v) k = uAt ys k := by
  unfold uAt
  rw [List.getD_eq_getElem?_getD, List.getD_eq_getElem?_getD, List.getElem?_append_left h]
theorem app_le {ys v : List Nat} {c k : Nat} {p : Nat → Bool} (h : k ≤ ys.length) (hp : p c = p 0) : p (uAt (ys ++ c :: v) k) = p (uAt ys k) := by
  by_cases h1 : k < ys.length
  · rw [app_lt h1]
  · have : k = ys.length := by omega
    subst this
    have e1 : uAt (ys ++ c :: v) ys.length = c := by unfold uAt; rw [List.getD_eq_getElem?_getD, List.getElem?_append_right (Nat.le_refl _), Nat.sub_self]; rfl
    have e2 : uAt ys ys.length = 0 := by unfold uAt; rw [List.getD_eq_getElem?_getD, List.getElem?_eq_none (Nat.le_refl _)]; rfl
    rw [e1, e2, hp]
theorem app_take {ys w : List Nat} {k : Nat} (h : k ≤ ys.length) : (ys ++ w).take k = ys.take k := by rw [List.take_append_of_le_length h]
theorem span_app {p : Nat → Bool} {ys v : List Nat} {c : Nat} (hp : p c = false) : spanL p (ys ++ c :: v) = spanL p ys := by
  induction ys with
  | nil => simp [spanL, hp]
  | cons x r ih => rw [List.cons_append]; unfold spanL; rw [ih]
theorem begB_app {ys v : List Nat} {c a b : Nat} (h0 : 0 < ys.length) (hb : b ≠ c) : begB (ys ++ c :: v) [a, b] = begB ys [a, b] := by
  unfold begB
  match ys, h0 with
  | [y], _ =>
    simp
    intro _ e
    exact absurd e.symm hb
  | y :: z :: r, _ => simp
theorem blk_app {ys v : List Nat} {c : Nat} (hc : 47 ≠ c) : ∀ (f i F : Nat), f ≤ F → blkM ys i f ≠ 0 → blkM (ys ++ c :: v) i F = blkM ys i f := by
  intro f
  induction f with
  | zero => intro i F _ h; exact absurd rfl h
  | succ f ih =>
    intro i F hF h
    obtain ⟨F, rfl⟩ : ∃ k, F = k + 1 := ⟨F - 1, by omega⟩
    rw [blkM] at h ⊢
    rw [blkM]
    by_cases hi : i < ys.length
    · rw [if_pos hi] at h ⊢
      rw [if_pos (by rw [List.length_append]; omega)]
      have e : (ys ++ c :: v).drop i = ys.drop i ++ c :: v := List.drop_append_of_le_length (by omega)
      rw [e, begB_app (by rw [List.length_drop]; omega) hc]
      by_cases hb : begB (ys.drop i) [42, 47] = true
      · rw [if_pos hb, if_pos hb]
      · rw [if_neg hb] at h ⊢
        rw [if_neg hb]
        exact ih (i + 1) F (by omega) h
    · rw [if_neg hi] at h; exact absurd rfl h
/-- What is skipped; a line's remark that comes to the end may go on behind a blank. -/
theorem skp_app {ys v : List Nat} {c : Nat} (hc : Gap c) (h0 : 0 < ys.length) (hl : c = 10 ∨ begB ys [47, 47] = false) (he : (skpM ys).e = 0) : skpM (ys ++ c :: v) = skpM ys := by
  have c47 : 47 ≠ c := by rcases hc with rfl | rfl <;> decide
  have c42 : 42 ≠ c := by rcases hc with rfl | rfl <;> decide
  unfold skpM at he ⊢
  rw [app_lt h0, begB_app h0 c47, begB_app h0 c42]
  by_cases h1 : isBlk (uAt ys 0) = true
  · rw [if_pos h1, if_pos h1]
  rw [if_neg h1] at he ⊢
  rw [if_neg h1]
  by_cases h2 : isEnd (uAt ys 0) = true
  · rw [if_pos h2, if_pos h2]
  rw [if_neg h2] at he ⊢
  rw [if_neg h2]
  by_cases h3 : begB ys [47, 47] = true
  · have hc10 : c = 10 := by
      rcases hl with h | h
      · exact h
      · rw [h3] at h; cases h
    rw [if_pos h3, if_pos h3, span_app (by rw [hc10]; rfl), app_take (span_le _ _)]
  rw [if_neg h3] at he ⊢
  rw [if_neg h3]
  by_cases h4 : begB ys [47, 42] = true
  · rw [if_pos h4] at he ⊢
    rw [if_pos h4]
    have hb : blkM ys 2 ys.length ≠ 0 := by
      intro e
      rw [e] at he
      cases he
    rw [blk_app c47 ys.length 2 _ (by rw [List.length_append]; omega) hb, app_take (blk_le _ _ _ (by decide))]
  · rw [if_neg h4, if_neg h4]
theorem wrd_app {ys v : List Nat} {c : Nat} (hc : Gap c) : wrdM (ys ++ c :: v) = wrdM ys := by
  have hp : isPrt c = false := by rcases hc with rfl | rfl <;> rfl
  unfold wrdM
  rw [span_app hp, app_take (span_le _ _)]
  have e := app_le (ys := ys) (v := v) (c := c) (p := fun x => decide (x = 92)) (span_le isPrt ys) (by rcases hc with rfl | rfl <;> rfl)
  by_cases h : uAt ys (spanL isPrt ys) = 92
  · rw [if_pos h, if_pos (by simpa [h] using e)]
  · rw [if_neg h, if_neg (by simpa [h] using e)]
theorem big_app {d : ByteArray} {x y : Nat} (h : isPrt x = isPrt y) : bigM d x = bigM d y := by unfold bigM; rw [h]
theorem num_app {ys v : List Nat} {c : Nat} (hc : Gap c) (h0 : 0 < ys.length) : numM (ys ++ c :: v) = numM ys := by
  have hd : isDig c = false := by rcases hc with rfl | rfl <;> rfl
  unfold numM
  rw [span_app hd, app_take (span_le _ _), app_lt h0]
  have e1 := app_le (ys := ys) (v := v) (c := c) (p := fun x => decide (x = 110)) (span_le isDig ys) (by rcases hc with rfl | rfl <;> rfl)
  have e2 := app_le (ys := ys) (v := v) (c := c) (p := isFra) (span_le isDig ys) (by rcases hc with rfl | rfl <;> rfl)
  have e3 := app_le (ys := ys) (v := v) (c := c) (p := isRad) (span_le isDig ys) (by rcases hc with rfl | rfl <;> rfl)
  have e4 := app_le (ys := ys) (v := v) (c := c) (p := isLet) (span_le isDig ys) (by rcases hc with rfl | rfl <;> rfl)
  rw [e2, e3, e4]
  by_cases h1 : 1 < spanL isDig ys ∧ uAt ys 0 = 48
  · rw [if_pos h1, if_pos h1]
  rw [if_neg h1, if_neg h1]
  by_cases h : uAt ys (spanL isDig ys) = 110
  · rw [if_pos h, if_pos (by simpa [h] using e1)]
    have hlt : spanL isDig ys < ys.length := uAt_in (by rw [h]; decide)
    exact big_app (app_le (p := isPrt) (by omega) (by rcases hc with rfl | rfl <;> rfl))
  · rw [if_neg h, if_neg (by simpa [h] using e1)]
theorem cod_in {zs : List Nat} : ∀ (j i v x : Nat), codM zs v i j = some x → i + j ≤ zs.length ∨ j = 0 := by
  intro j
  induction j with
  | zero => intro i v x _; exact .inr rfl
  | succ j ih =>
    intro i v x h
    rw [codM] at h
    by_cases hb : hexB (uAt zs i) = true
    · rw [if_pos hb] at h
      have hi : i < zs.length := uAt_in (by intro e; rw [e] at hb; cases hb)
      rcases ih (i + 1) _ x h with q | q
      · exact .inl (by omega)
      · exact .inl (by omega)
    · rw [if_neg hb] at h; cases h
theorem cod_app {zs w : List Nat} {c : Nat} : ∀ (j i v : Nat), i + j ≤ zs.length → codM (zs ++ c :: w) v i j = codM zs v i j := by
  intro j
  induction j with
  | zero => intro i v _; rfl
  | succ j ih =>
    intro i v h
    rw [codM, codM, app_lt (by omega)]
    by_cases hb : hexB (uAt zs i) = true
    · rw [if_pos hb, if_pos hb]; exact ih _ _ (by omega)
    · rw [if_neg hb, if_neg hb]
theorem codE_app {zs w : List Nat} {c d : Nat} (hd : 0 < d) (he : (codE zs d).e = 0) : codE (zs ++ c :: w) d = codE zs d := by
  unfold codE at he ⊢
  cases h : codM zs 0 1 d with
  | none => rw [h] at he; cases he
  | some x =>
    rcases cod_in d 1 0 x h with q | q
    · rw [cod_app d 1 0 q, h]
    · omega
theorem esc_app {zs w : List Nat} {c : Nat} (hc : Gap c) (he : (escM zs).e = 0) : escM (zs ++ c :: w) = escM zs := by
  by_cases hz : zs = []
  · subst hz; cases he
  have h0 : 0 < zs.length := by cases zs with
    | nil => exact absurd rfl hz
    | cons _ _ => simp
  have c123 : 123 ≠ c := by rcases hc with rfl | rfl <;> decide
  have e1 := app_le (ys := zs) (v := w) (c := c) (p := isDig) (k := 1) (by omega) (by rcases hc with rfl | rfl <;> rfl)
  unfold escM at he ⊢
  rw [if_neg hz] at he
  rw [if_neg hz, if_neg (by simp), app_lt h0, begB_app h0 c123, e1]
  by_cases h1 : (isEnd (uAt zs 0) || isSep (uAt zs 0) || begB zs [117, 123]) = true
  · rw [if_pos h1, if_pos h1]
  rw [if_neg h1] at he ⊢
  rw [if_neg h1]
  by_cases h2 : uAt zs 0 = 120
  · rw [if_pos h2] at he ⊢
    rw [if_pos h2]
    exact codE_app (by decide) he
  rw [if_neg h2] at he ⊢
  rw [if_neg h2]
  by_cases h3 : uAt zs 0 = 117
  · rw [if_pos h3] at he ⊢
    rw [if_pos h3]
    exact codE_app (by decide) he
  rw [if_neg h3, if_neg h3]
theorem quo_app {ys v : List Nat} {c : Nat} (hc : Gap c) (h0 : 0 < ys.length) : ∀ (f i F : Nat) (s : List Nat), f ≤ F → (quoM ys i s f).e = 0 → quoM (ys ++ c :: v) i s F = quoM ys i s f := by
  intro f
  induction f with
  | zero => intro i F s _ h; cases h
  | succ f ih =>
    intro i F s hF h
    obtain ⟨F, rfl⟩ : ∃ k, F = k + 1 := ⟨F - 1, by omega⟩
    rw [quoM] at h ⊢
    rw [quoM]
    by_cases hi : i < ys.length
    · rw [if_pos hi] at h ⊢
      rw [if_pos (by rw [List.length_append]; omega), app_lt hi, app_lt h0]
      by_cases h1 : uAt ys i = uAt ys 0
      · rw [if_pos h1, if_pos h1]
      rw [if_neg h1] at h ⊢
      rw [if_neg h1]
      by_cases h2 : isEnd (uAt ys i) = true
      · rw [if_pos h2, if_pos h2]
      rw [if_neg h2] at h ⊢
      rw [if_neg h2]
      by_cases h3 : uAt ys i ≠ 92
      · rw [if_pos h3] at h ⊢
        rw [if_pos h3]
        exact ih _ _ _ (by omega) h
      rw [if_neg h3] at h ⊢
      rw [if_neg h3]
      have ed : (ys ++ c :: v).drop (i + 1) = ys.drop (i + 1) ++ c :: v := List.drop_append_of_le_length (by omega)
      by_cases h4 : (escM (ys.drop (i + 1))).e ≠ 0
      · rw [if_pos h4] at h; exact absurd h h4
      · rw [ed, esc_app hc (by simpa using h4)]
        rw [if_neg h4] at h ⊢
        rw [if_neg h4]
        exact ih _ _ _ (by omega) h
    · rw [if_neg hi] at h; cases h

set_option maxRecDepth 100000 in
theorem signs_gap : ∀ l ∈ signs1 ++ signs2, l.contains 10 = false ∧ l.contains 32 = false := by
  unfold signs1 signs2
  simp only [List.cons_append, List.nil_append]
  repeat' (first | exact List.forall_mem_nil _ | refine List.forall_mem_cons.2 ⟨⟨by kernel_rfl, by kernel_rfl⟩, ?_⟩)
theorem sign_gap {xs : List Nat} {c : Nat} (hc : Gap c) (h : c ∈ xs) : signN (plS xs).data.toList = 0 := by
  unfold plS
  by_cases hl : low xs = true
  · rw [if_pos hl]
    have hd : (byts xs).data.toList = xs.map Nat.toUInt8 := rfl
    have hm : c.toUInt8 ∈ (byts xs).data.toList := by rw [hd]; exact List.mem_map_of_mem h
    by_cases q : (byts xs).data.toList ∈ signs1 ++ signs2
    · obtain ⟨q1, q2⟩ := signs_gap _ q
      rcases hc with rfl | rfl
      · have : (32 : UInt8) ∈ (byts xs).data.toList := hm
        rw [List.contains_iff_mem.2 this] at q2; cases q2
      · have : (10 : UInt8) ∈ (byts xs).data.toList := hm
        rw [List.contains_iff_mem.2 this] at q1; cases q1
    · rw [List.mem_append, not_or] at q
      unfold signN
      rw [if_neg (by simpa using q.1), if_neg (by simpa using q.2)]
  · rw [if_neg hl]; rfl
theorem pun_app {ys v : List Nat} {c : Nat} (hc : Gap c) : punM (ys ++ c :: v) (min 4 (ys ++ c :: v).length) = punM ys (min 4 ys.length) := by
  have low1 : ∀ k, k ≤ ys.length → punM (ys ++ c :: v) k = punM ys k := by
    intro k
    induction k with
    | zero => intro _; rfl
    | succ k ih =>
      intro hk
      rw [punM, punM, app_take hk, ih (by omega), app_le (p := isDig) hk (by rcases hc with rfl | rfl <;> rfl)]
  have high : ∀ j, punM (ys ++ c :: v) (ys.length + j) = punM ys ys.length := by
    intro j
    induction j with
    | zero => exact low1 _ (Nat.le_refl _)
    | succ j ih =>
      rw [← Nat.add_assoc, punM, if_pos, ih]
      refine sign_gap hc ?_
      rw [List.take_append, List.mem_append]
      right
      rw [show ys.length + j + 1 - ys.length = j + 1 by omega, List.take_succ_cons]
      exact List.mem_cons_self
  by_cases h : ys.length ≤ 4
  · have e : min 4 ys.length = ys.length := by omega
    rw [e]
    obtain ⟨j, hj⟩ : ∃ j, min 4 (ys ++ c :: v).length = ys.length + j := ⟨min 4 (ys ++ c :: v).length - ys.length, by rw [List.length_append]; omega⟩
    rw [hj]
    exact high j
  · have e : min 4 ys.length = 4 := by omega
    have e2 : min 4 (ys ++ c :: v).length = 4 := by rw [List.length_append]; omega
    rw [e, e2]
    exact low1 4 (by omega)
/-- What is read, where it is well, does not turn with what stands behind. -/
theorem red_app {ys v : List Nat} {c : Nat} {z : Bool} (hc : Gap c) (h0 : 0 < ys.length) (he : (redM ys z).e = 0) : redM (ys ++ c :: v) z = redM ys z := by
  unfold redM at he ⊢
  rw [app_lt h0]
  by_cases h1 : isLet (uAt ys 0) = true
  · rw [if_pos h1, if_pos h1]; exact wrd_app hc
  rw [if_neg h1] at he ⊢
  rw [if_neg h1]
  by_cases h2 : isDig (uAt ys 0) = true
  · rw [if_pos h2, if_pos h2]; exact num_app hc h0
  rw [if_neg h2] at he ⊢
  rw [if_neg h2]
  by_cases h3 : isQuo (uAt ys 0) = true
  · rw [if_pos h3] at he ⊢
    rw [if_pos h3]
    exact quo_app hc h0 _ _ _ _ (by rw [List.length_append]; omega) he
  rw [if_neg h3] at he ⊢
  rw [if_neg h3, app_le (p := isDig) (k := 1) (by omega) (by rcases hc with rfl | rfl <;> rfl)]
  by_cases h4 : uAt ys 0 = 46 ∧ isDig (uAt ys 1) = true
  · rw [if_pos h4] at he; cases he
  rw [if_neg h4] at he ⊢
  rw [if_neg h4, pun_app hc]
  by_cases h5 : (punM ys (min 4 ys.length)).data.toList ≠ []
  · rw [if_pos h5, if_pos h5]
  · rw [if_neg h5] at he
    split at he <;> cases he

/-- A source that is well, with a gap and more behind it: its tokens are read as before, up to its end. -/
theorem run_app {u v : List Nat} {c : Nat} (hc : Gap c) (hl : c = 10 ∨ ∀ a, a < u.length → begB (u.drop a) [47, 47] = false) : ∀ (f a : Nat) (nl : Bool) (acc : List Tk) (F : Nat), (runM u a nl acc f).e = 0 → u.length ≤ a + f → a ≤ u.length → u.length ≤ a + F →
    ∃ (nl' : Bool) (acc' : List Tk) (F' : Nat), (runM u a nl acc f).l = acc' ++ [{ tk0 with a := u.length, nl := nl' }] ∧ runM (u ++ c :: v) a nl acc F = runM (u ++ c :: v) u.length nl' acc' F' ∧ a + F ≤ u.length + F' := by
  intro f
  induction f with
  | zero =>
    intro a nl acc F _ h1 h2 _
    have : a = u.length := by omega
    subst this
    exact ⟨nl, acc, F, rfl, rfl, Nat.le_refl _⟩
  | succ f ih =>
    intro a nl acc F he h1 h2 h3
    by_cases ha : a < u.length
    · obtain ⟨F, rfl⟩ : ∃ k, F = k + 1 := ⟨F - 1, by omega⟩
      have h0 : 0 < (u.drop a).length := by rw [List.length_drop]; omega
      have hld : (u.drop a).length = u.length - a := List.length_drop
      have ed : (u ++ c :: v).drop a = u.drop a ++ c :: v := List.drop_append_of_le_length (by omega)
      have hll : c = 10 ∨ begB (u.drop a) [47, 47] = false := hl.imp id fun h => h a ha
      rw [runM, if_pos ha] at he
      by_cases h4 : (skpM (u.drop a)).e ≠ 0
      · rw [if_pos h4] at he; exact absurd he h4
      rw [if_neg h4] at he
      have hsk := skp_app (v := v) hc h0 hll (by simpa using h4)
      have hlt2 : a < (u ++ c :: v).length := by rw [List.length_append]; omega
      by_cases h5 : 0 < (skpM (u.drop a)).n
      · rw [if_pos h5] at he
        have hs := skp_n _ h0
        have r1 : runM u a nl acc (f + 1) = runM u (a + (skpM (u.drop a)).n) (nl || (skpM (u.drop a)).l) acc f := by rw [runM, if_pos ha, if_neg h4, if_pos h5]
        have r2 : runM (u ++ c :: v) a nl acc (F + 1) = runM (u ++ c :: v) (a + (skpM (u.drop a)).n) (nl || (skpM (u.drop a)).l) acc F := by rw [runM, if_pos hlt2, ed, hsk, if_neg h4, if_pos h5]
        rw [r1, r2]
        obtain ⟨nl', acc', F', q1, q2, q3⟩ := ih _ _ _ F he (by omega) (by omega) (by omega)
        exact ⟨nl', acc', F', q1, q2, by omega⟩
      rw [if_neg h5] at he
      by_cases h6 : (redM (u.drop a) (decide (a = 0))).e ≠ 0
      · rw [if_pos h6] at he; exact absurd he h6
      rw [if_neg h6] at he
      have hre := red_app (v := v) (z := decide (a = 0)) hc h0 (by simpa using h6)
      have hr := red_n (u.drop a) (decide (a = 0)) h0 (by simpa using h6)
      have r1 : runM u a nl acc (f + 1) = runM u (a + (redM (u.drop a) (decide (a = 0))).n) false (acc ++ [{ (redM (u.drop a) (decide (a = 0))).t with a := a, nl := nl }]) f := by rw [runM, if_pos ha, if_neg h4, if_neg h5, if_neg h6]
      have r2 : runM (u ++ c :: v) a nl acc (F + 1) = runM (u ++ c :: v) (a + (redM (u.drop a) (decide (a = 0))).n) false (acc ++ [{ (redM (u.drop a) (decide (a = 0))).t with a := a, nl := nl }]) F := by rw [runM, if_pos hlt2, ed, hsk, if_neg h4, if_neg h5, hre, if_neg h6]
      rw [r1, r2]
      obtain ⟨nl', acc', F', q1, q2, q3⟩ := ih _ _ _ F he (by omega) (by omega) (by omega)
      exact ⟨nl', acc', F', q1, q2, by omega⟩
    · have : a = u.length := by omega
      subst this
      rw [runM, if_neg ha]
      exact ⟨nl, acc, F, rfl, rfl, Nat.le_refl _⟩
/-- Two sources with a line end between. -/
theorem tok_join (u v : List Nat) (hu : (tokM u).e = 0) (hl : u.length + v.length ≤ 4095) (h35 : uAt v 0 ≠ 35) :
    ∃ (acc : List Tk) (nl : Bool), tokM u = ⟨acc ++ [{ tk0 with a := u.length, nl := nl }], 0, 0⟩ ∧ tokM (u ++ 10 :: v) = behind acc (mvR (u.length + 1) (nlR (tokM v))) := by
  have e1 : tokM u = runM u 0 false [] u.length := by unfold tokM; rw [if_neg (by omega)]
  have e2 : tokM v = runM v 0 false [] v.length := by unfold tokM; rw [if_neg (by omega)]
  have e3 : tokM (u ++ 10 :: v) = runM (u ++ 10 :: v) 0 false [] (u ++ 10 :: v).length := by unfold tokM; rw [if_neg (by simp; omega)]
  rw [e1] at hu
  obtain ⟨nl, acc, F, q1, q2, q3⟩ := run_app (u := u) (v := v) (c := 10) (.inr rfl) (.inl rfl) u.length 0 false [] (u ++ 10 :: v).length hu (by omega) (Nat.zero_le _) (by rw [List.length_append]; omega)
  have ha := run_ok u u.length 0 false [] hu
  have e4 : tokM u = ⟨acc ++ [{ tk0 with a := u.length, nl := nl }], 0, 0⟩ := by
    rw [e1]
    generalize runM u 0 false [] u.length = r at hu q1 ha
    obtain ⟨l, a, e⟩ := r
    dsimp only at hu q1 ha
    rw [hu, q1, ha]
  refine ⟨acc, nl, e4, ?_⟩
  rw [List.length_append, List.length_cons] at q3
  obtain ⟨F, rfl⟩ : ∃ k, F = k + 1 := ⟨F - 1, by omega⟩
  have ed : (u ++ 10 :: v).drop u.length = 10 :: v := List.drop_left
  rw [e3, q2, runM, if_pos (by simp), ed, skp_blank 10 v (.inr rfl)]
  simp only [ne_eq, not_true_eq_false, if_false, Nat.lt_add_one, if_true, decide_true, Bool.or_true]
  rw [run_acc]
  have em := run_move (u ++ [10]) v (by simp) h35 v.length 0 true
  rw [List.append_assoc, List.singleton_append, List.length_append, List.length_singleton, Nat.add_zero] at em
  rw [run_fuel (u ++ 10 :: v) F v.length _ _ _ (by simp; omega) (by simp; omega), em, run_nl v v.length 0 false, ← e2]
end Go.Proofs.YtaigkjffglbknaaDoor
