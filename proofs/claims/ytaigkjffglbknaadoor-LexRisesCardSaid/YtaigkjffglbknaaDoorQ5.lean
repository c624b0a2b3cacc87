/- Where tokens stand: the run's tokens, one behind the other. -/
import Derived.Test.YtaigkjffglbknaaDoorQ4
namespace Go.Proofs.YtaigkjffglbknaaDoor
open Go.RowKit


/-- Where a token ends, for all that its kind says. -/
def enT (t : Tk) : Nat := if t.k = 1 ∨ t.k = 5 ∨ t.k = 6 then t.a + t.t.size else t.a + 1
/-- A name, a word or a sign: which. -/
def TxtK (t : Tk) : Prop :=
  (t.k = 1 ∧ nameB t.t = true ∧ wordN t.t.data.toList = 0 ∧ signN t.t.data.toList = 0) ∨
  (t.k = 6 ∧ nameB t.t = false ∧ 0 < wordN t.t.data.toList ∧ signN t.t.data.toList = 0) ∨
  (t.k = 5 ∧ nameB t.t = false ∧ wordN t.t.data.toList = 0 ∧ signN t.t.data.toList = 1)
/-- What stands at the head of units. -/
def HdOK (ys : List Nat) (t : Tk) (n : Nat) : Prop :=
  (t.k = 2 ∨ t.k = 3 ∨ t.k = 4) ∨ (TxtK t ∧ 0 < t.t.size ∧ n = t.t.size ∧ ys.take t.t.size = nats t.t)
theorem nats_byts {xs : List Nat} (h : low xs = true) : nats (byts xs) = xs := by
  unfold nats byts
  show (xs.map Nat.toUInt8).map UInt8.toNat = xs
  rw [List.map_map]
  unfold low at h
  rw [List.all_eq_true] at h
  conv => rhs; rw [← List.map_id xs]
  apply List.map_congr_left
  intro x hx
  have := h x hx
  simp at this
  show x.toUInt8.toNat = x
  simp
  omega
theorem nats_size (s : ByteArray) : (nats s).length = s.size := nats_len s
set_option maxRecDepth 100000 in
theorem signs_ok : ∀ l ∈ signs1, nameB ⟨l.toArray⟩ = false ∧ wordN l = 0 := by
  unfold signs1
  repeat' (first | exact List.forall_mem_nil _ | refine List.forall_mem_cons.2 ⟨⟨by kernel_rfl, by kernel_rfl⟩, ?_⟩)
set_option maxRecDepth 100000 in
theorem signs_let : ∀ l ∈ signs1 ++ signs2, isLet (uAt (l.map UInt8.toNat) 0) = false := by
  unfold signs1 signs2
  simp only [List.cons_append, List.nil_append]
  repeat' (first | exact List.forall_mem_nil _ | refine List.forall_mem_cons.2 ⟨by kernel_rfl, ?_⟩)
theorem sign_one {s : List UInt8} (h : signN s = 1) : s ∈ signs1 := by
  unfold signN at h
  by_cases q : signs1.contains s = true
  · simpa using q
  · rw [if_neg q] at h; split at h <;> cases h
theorem sign_let {s : List UInt8} (h : isLet (uAt (s.map UInt8.toNat) 0) = true) : signN s = 0 := by
  by_cases q : s ∈ signs1 ++ signs2
  · rw [signs_let _ q] at h; cases h
  · rw [List.mem_append, not_or] at q
    unfold signN
    rw [if_neg (by simpa using q.1), if_neg (by simpa using q.2)]
theorem uAt_tk {xs : List Nat} {n i : Nat} (h : i < n) : uAt (xs.take n) i = uAt xs i := by
  unfold uAt
  exact getD_take h
theorem span_take {p : Nat → Bool} (xs : List Nat) : (xs.take (spanL p xs)).all p = true := by
  induction xs with
  | nil => rfl
  | cons x r ih =>
    unfold spanL
    by_cases h : p x = true
    · rw [if_pos h, List.take_succ_cons, List.all_cons, h, ih]; rfl
    · rw [if_neg h]; rfl
theorem wrd_ok (ys : List Nat) (h0 : 0 < ys.length) (hl : isLet (uAt ys 0) = true) (he : (wrdM ys).e = 0) : HdOK ys (wrdM ys).t (wrdM ys).n := by
  unfold wrdM at he ⊢
  by_cases h : uAt ys (spanL isPrt ys) = 92
  · rw [if_pos h] at he; cases he
  rw [if_neg h]
  have hp : 0 < spanL isPrt ys := spanL_pos h0 (by unfold isPrt; rw [hl]; rfl)
  have hle := span_le isPrt ys
  have hall := span_take (p := isPrt) ys
  obtain ⟨T, hT⟩ : ∃ T, ys.take (spanL isPrt ys) = T := ⟨_, rfl⟩
  have hTl : T.length = spanL isPrt ys := by rw [← hT, List.length_take]; omega
  have hlow := prt_low hall
  rw [hT] at hall hlow ⊢
  have e1 : plS T = byts T := by unfold plS; rw [if_pos hlow]
  have e2 : nats (byts T) = T := nats_byts hlow
  have e3 : (byts T).size = spanL isPrt ys := by rw [byts_size, hTl]
  have hu : uAt T 0 = uAt ys 0 := by rw [← hT]; exact uAt_tk hp
  rw [e1]
  right
  refine ⟨?_, by show 0 < (byts T).size; omega, e3.symm, by show ys.take (byts T).size = _; rw [e3, hT]; exact e2.symm⟩
  have hs : signN (byts T).data.toList = 0 := sign_let (by show isLet (uAt (nats (byts T)) 0) = true; rw [e2, hu]; exact hl)
  have hne : (byts T).data.toList.isEmpty = false := by
    cases hq : (byts T).data.toList with
    | nil =>
      have h1 : (byts T).data.toList.length = (byts T).size := by simp
      rw [hq] at h1
      have h2 : 0 = (byts T).size := h1
      omega
    | cons _ _ => rfl
  have hd : isDig (uAt (nats (byts T)) 0) = false := by
    rw [e2, hu]
    simp [isLet] at hl
    simp [isDig]; omega
  by_cases hw : wordN (byts T).data.toList = 0
  · refine .inl ⟨by show (if _ then _ else _) = _; rw [if_pos hw], ?_, hw, hs⟩
    show nameB (byts T) = true
    unfold nameB
    rw [hne, hd, e2, hall, hw]
    rfl
  · refine .inr (.inl ⟨by show (if _ then _ else _) = _; rw [if_neg hw], ?_, Nat.pos_of_ne_zero hw, hs⟩)
    show nameB (byts T) = false
    unfold nameB
    rw [beq_eq_false_iff_ne.2 hw]
    simp
theorem pun_ok (ys : List Nat) : ∀ k, k ≤ ys.length → (punM ys k).data.toList = [] ∨ (0 < (punM ys k).size ∧ signN (punM ys k).data.toList ≠ 0 ∧ ys.take (punM ys k).size = nats (punM ys k)) := by
  intro k
  induction k with
  | zero => intro _; exact .inl rfl
  | succ k ih =>
    intro hk
    rw [punM]
    by_cases h : signN (plS (ys.take (k + 1))).data.toList = 0
    · rw [if_pos h]; exact ih (by omega)
    rw [if_neg h]
    have hlow : low (ys.take (k + 1)) = true := by
      by_cases hl : low (ys.take (k + 1)) = true
      · exact hl
      · exact absurd (by unfold plS; rw [if_neg hl]; rfl) h
    have e1 : plS (ys.take (k + 1)) = byts (ys.take (k + 1)) := by unfold plS; rw [if_pos hlow]
    have e2 : nats (byts (ys.take (k + 1))) = ys.take (k + 1) := nats_byts hlow
    have e3 : (byts (ys.take (k + 1))).size = k + 1 := by rw [byts_size, List.length_take]; omega
    by_cases hq : (plS (ys.take (k + 1))).data.toList = [63, 46] ∧ isDig (uAt ys (k + 1)) = true
    · rw [if_pos hq]
      right
      refine ⟨by decide, by decide, ?_⟩
      have q : nats (plS (ys.take (k + 1))) = [63, 46] := by unfold nats; rw [hq.1]; rfl
      rw [e1, e2] at q
      have : (ys.take (k + 1)).take 1 = [63] := by rw [q]; rfl
      rw [List.take_take, Nat.min_eq_left (by omega)] at this
      exact this
    · rw [if_neg hq]
      right
      rw [e1] at h ⊢
      exact ⟨by omega, h, by rw [e3]; exact e2.symm⟩
theorem red_ok (ys : List Nat) (z : Bool) (h0 : 0 < ys.length) (he : (redM ys z).e = 0) : HdOK ys (redM ys z).t (redM ys z).n := by
  unfold redM at he ⊢
  by_cases hl : isLet (uAt ys 0) = true
  · rw [if_pos hl] at he ⊢; exact wrd_ok ys h0 hl he
  rw [if_neg hl] at he ⊢
  by_cases hd : isDig (uAt ys 0) = true
  · rw [if_pos hd] at he ⊢
    unfold numM at he ⊢
    by_cases g1 : 1 < spanL isDig ys ∧ uAt ys 0 = 48
    · rw [if_pos g1] at he; cases he
    rw [if_neg g1] at he ⊢
    by_cases g2 : uAt ys (spanL isDig ys) = 110
    · rw [if_pos g2] at he ⊢
      unfold bigM at he ⊢
      by_cases g3 : Bg.parE (plS (ys.take (spanL isDig ys))).data.toList = 0
      · rw [if_pos g3] at he ⊢
        by_cases g4 : isPrt (uAt ys (spanL isDig ys + 1)) = true
        · rw [if_pos g4] at he; cases he
        rw [if_neg g4]
        exact .inl (.inr (.inl rfl))
      · rw [if_neg g3] at he; cases he
    rw [if_neg g2] at he ⊢
    split at he
    · cases he
    rename_i g3
    rw [if_neg g3]
    split at he
    · cases he
    rename_i g4
    rw [if_neg g4]
    split at he
    · rename_i g5
      rw [if_pos g5]
      exact .inl (.inl rfl)
    · cases he
  rw [if_neg hd] at he ⊢
  by_cases hq : isQuo (uAt ys 0) = true
  · rw [if_pos hq] at he ⊢
    refine .inl (.inr (.inr ?_))
    have qk : ∀ (f i : Nat) (s : List Nat), (quoM ys i s f).e = 0 → (quoM ys i s f).t.k = 4 := by
      intro f
      induction f with
      | zero => intro i s h; cases h
      | succ f ih =>
        intro i s
        rw [quoM]
        by_cases h1 : i < ys.length
        · rw [if_pos h1]
          by_cases h2 : uAt ys i = uAt ys 0
          · rw [if_pos h2]; intro _; rfl
          rw [if_neg h2]
          by_cases h3 : isEnd (uAt ys i) = true
          · rw [if_pos h3]; intro h; cases h
          rw [if_neg h3]
          by_cases h4 : uAt ys i ≠ 92
          · rw [if_pos h4]; exact ih _ _
          rw [if_neg h4]
          by_cases h5 : (escM (ys.drop (i + 1))).e ≠ 0
          · rw [if_pos h5]; intro h; exact absurd h h5
          rw [if_neg h5]
          exact ih _ _
        · rw [if_neg h1]; intro h; cases h
    exact qk _ _ _ he
  rw [if_neg hq] at he ⊢
  by_cases hdot : uAt ys 0 = 46 ∧ isDig (uAt ys 1) = true
  · rw [if_pos hdot] at he; cases he
  rw [if_neg hdot] at he ⊢
  by_cases hs : (punM ys (min 4 ys.length)).data.toList ≠ []
  · rw [if_pos hs] at he ⊢
    obtain ⟨p1, p2, p3⟩ := (pun_ok ys _ (Nat.min_le_right _ _)).resolve_left hs
    generalize punM ys (min 4 ys.length) = s at he hs p1 p2 p3 ⊢
    unfold sgnM at he ⊢
    by_cases g : signN s.data.toList = 2
    · rw [if_pos g] at he; cases he
    rw [if_neg g]
    have h1 : signN s.data.toList = 1 := by
      unfold signN at g p2 ⊢
      split
      · rfl
      · rename_i q; rw [if_neg q] at g p2
        split at g <;> rename_i q2
        · exact absurd rfl g
        · rw [if_neg q2] at p2; exact absurd rfl p2
    obtain ⟨q1, q2⟩ := signs_ok _ (sign_one h1)
    rw [data_mk] at q1
    exact .inr ⟨.inr (.inr ⟨rfl, q1, q2, h1⟩), p1, rfl, p3⟩
  · rw [if_neg hs] at he
    split at he <;> cases he
/-- A token that stands in the units. -/
def TokOK (u : List Nat) (t : Tk) : Prop :=
  t.a < u.length ∧ ((t.k = 2 ∨ t.k = 3 ∨ t.k = 4) ∨ (TxtK t ∧ 0 < t.t.size ∧ t.t.size ≤ u.length - t.a ∧ (u.drop t.a).take t.t.size = nats t.t))
/-- Where what stands ahead of token i ends. -/
def enAt (l : List Tk) : Nat → Nat
  | 0 => 0
  | i + 1 => enT (l.getD i tk0)
def Chain (u : List Nat) (l : List Tk) (b : Nat) : Prop := (∀ i, i < l.length → TokOK u (l.getD i tk0) ∧ enAt l i ≤ (l.getD i tk0).a) ∧ enAt l l.length ≤ b
theorem getD_app {l r : List Tk} {i : Nat} (h : i < l.length) : (l ++ r).getD i tk0 = l.getD i tk0 := by
  rw [List.getD_eq_getElem?_getD, List.getD_eq_getElem?_getD, List.getElem?_append_left h]
theorem getD_at (l : List Tk) (t : Tk) : (l ++ [t]).getD l.length tk0 = t := by
  rw [List.getD_eq_getElem?_getD, List.getElem?_append_right (Nat.le_refl _)]
  simp
theorem enAt_app {l r : List Tk} {i : Nat} (h : i ≤ l.length) : enAt (l ++ r) i = enAt l i := by
  cases i with
  | zero => rfl
  | succ i => show enT _ = enT _; rw [getD_app (by omega)]
theorem Chain.mono {u : List Nat} {l : List Tk} {b c : Nat} (h : Chain u l b) (hb : b ≤ c) : Chain u l c := ⟨h.1, Nat.le_trans h.2 hb⟩
theorem Chain.snoc {u : List Nat} {l : List Tk} {b c : Nat} {t : Tk} (h : Chain u l b) (ht : TokOK u t) (hb : b ≤ t.a) (hc : enT t ≤ c) : Chain u (l ++ [t]) c := by
  refine ⟨fun i hi => ?_, ?_⟩
  · rw [List.length_append, List.length_singleton] at hi
    by_cases q : i < l.length
    · rw [getD_app q, enAt_app (by omega)]; exact h.1 i q
    · obtain rfl : i = l.length := by omega
      rw [getD_at, enAt_app (Nat.le_refl _)]
      exact ⟨ht, Nat.le_trans h.2 hb⟩
  · rw [List.length_append, List.length_singleton]
    show enT _ ≤ c
    rw [getD_at]
    exact hc
theorem run_rise (u : List Nat) : ∀ (f a : Nat) (nl : Bool) (acc : List Tk), a ≤ u.length → u.length ≤ a + f → Chain u acc a → (runM u a nl acc f).e = 0 →
    ∃ (l : List Tk) (nl' : Bool), (runM u a nl acc f).l = l ++ [{ tk0 with a := u.length, nl := nl' }] ∧ Chain u l u.length := by
  intro f
  induction f with
  | zero =>
    intro a nl acc h1 h2 hc _
    obtain rfl : a = u.length := by omega
    exact ⟨acc, nl, rfl, hc⟩
  | succ f ih =>
    intro a nl acc h1 h2 hc he
    rw [runM] at he ⊢
    by_cases ha : a < u.length
    · rw [if_pos ha] at he ⊢
      have h0 : 0 < (u.drop a).length := by rw [List.length_drop]; omega
      have hld : (u.drop a).length = u.length - a := List.length_drop
      by_cases g1 : (skpM (u.drop a)).e ≠ 0
      · rw [if_pos g1] at he; exact absurd he g1
      rw [if_neg g1] at he ⊢
      by_cases g2 : 0 < (skpM (u.drop a)).n
      · rw [if_pos g2] at he ⊢
        have hs := skp_n _ h0
        exact ih _ _ _ (by omega) (by omega) (hc.mono (by omega)) he
      rw [if_neg g2] at he ⊢
      by_cases g3 : (redM (u.drop a) (decide (a = 0))).e ≠ 0
      · rw [if_pos g3] at he; exact absurd he g3
      rw [if_neg g3] at he ⊢
      have hr := red_n (u.drop a) (decide (a = 0)) h0 (by simpa using g3)
      have hk := red_ok (u.drop a) (decide (a = 0)) h0 (by simpa using g3)
      generalize redM (u.drop a) (decide (a = 0)) = r at he hr hk ⊢
      refine ih _ _ _ (by omega) (by omega) (hc.snoc ⟨ha, ?_⟩ (Nat.le_refl _) ?_) he
      · rcases hk with q | ⟨q1, q2, q3, q4⟩
        · exact .inl q
        · refine .inr ⟨q1, q2, ?_, q4⟩
          show r.t.t.size ≤ u.length - a
          omega
      · rcases hk with q | ⟨q1, q2, q3, q4⟩
        · unfold enT
          dsimp only
          rw [if_neg (by rcases q with q | q | q <;> rw [q] <;> decide)]
          omega
        · unfold enT
          dsimp only
          split <;> omega
    · rw [if_neg ha]
      obtain rfl : a = u.length := by omega
      exact ⟨acc, nl, rfl, hc⟩
theorem run_er (u : List Nat) : ∀ (f a : Nat) (nl : Bool) (acc : List Tk), (runM u a nl acc f).e ≠ 0 → (runM u a nl acc f).a < u.length := by
  intro f
  induction f with
  | zero => intro a nl acc h; exact absurd rfl h
  | succ f ih =>
    intro a nl acc
    rw [runM]
    by_cases ha : a < u.length
    · rw [if_pos ha]
      split
      · intro _; exact ha
      · split
        · exact ih _ _ _
        · split
          · intro _; exact ha
          · exact ih _ _ _
    · rw [if_neg ha]; intro h; exact absurd rfl h
theorem tok_rise (u : List Nat) : ((tokM u).e ≠ 0 ∧ (tokM u).l = [] ∧ (tokM u).a < max u.length 1) ∨ ∃ (l : List Tk) (nl : Bool), tokM u = ⟨l ++ [{ tk0 with a := u.length, nl := nl }], 0, 0⟩ ∧ Chain u l u.length ∧ l.length ≤ u.length := by
  by_cases hl : 4096 < u.length
  · left
    have e : tokM u = ⟨[], 0, 3⟩ := by unfold tokM; rw [if_pos hl]
    rw [e]
    exact ⟨by decide, rfl, by show 0 < _; omega⟩
  · have e : tokM u = runM u 0 false [] u.length := by unfold tokM; rw [if_neg hl]
    rw [e]
    by_cases he : (runM u 0 false [] u.length).e = 0
    · right
      obtain ⟨l, nl, q1, q2⟩ := run_rise u u.length 0 false [] (Nat.zero_le _) (by omega) ⟨fun i hi => by simp at hi, Nat.le_refl _⟩ he
      have ha := run_ok u u.length 0 false [] he
      have hb := (run_bd u u.length 0 false [] (Nat.zero_le _) (fun t ht => by simp at ht)).2.2
      rw [q1] at hb
      refine ⟨l, nl, ?_, q2, by simp at hb; omega⟩
      generalize runM u 0 false [] u.length = r at he q1 ha
      obtain ⟨l', a, e⟩ := r
      dsimp only at he q1 ha
      rw [he, q1, ha]
    · left
      refine ⟨he, run_no _ _ _ _ _ he, ?_⟩
      have := run_er u u.length 0 false [] he
      omega
end Go.Proofs.YtaigkjffglbknaaDoor
