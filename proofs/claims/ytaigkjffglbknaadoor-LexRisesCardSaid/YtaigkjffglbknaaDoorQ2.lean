/- The run over the units: units ahead of them, a line end ahead of them. -/
import Derived.Test.YtaigkjffglbknaaDoorL7w
namespace Go.Proofs.YtaigkjffglbknaaDoor
open Go.RowKit


/-- A result behind other tokens. -/
def behind (acc : List Tk) (r : Tr) : Tr := if r.e = 0 then ⟨acc ++ r.l, 0, 0⟩ else ⟨[], r.a, r.e⟩
def mv (d : Nat) (t : Tk) : Tk := { t with a := t.a + d }
/-- A result of a source that begins d units further on. -/
def mvR (d : Nat) (r : Tr) : Tr := if r.e = 0 then ⟨r.l.map (mv d), 0, 0⟩ else ⟨[], r.a + d, r.e⟩
def nl1 : List Tk → List Tk
  | [] => []
  | t :: l => { t with nl := true } :: l
/-- A line end ahead. -/
def nlR (r : Tr) : Tr := if r.e = 0 then ⟨nl1 r.l, 0, 0⟩ else ⟨[], r.a, r.e⟩
theorem red_z2 (ys : List Nat) (z z' : Bool) (h : uAt ys 0 ≠ 35) : redM ys z = redM ys z' := by
  have hb : begB ys [35, 33] = false := begB_head h
  unfold redM
  rw [hb]
  simp
theorem run_ok (xs : List Nat) : ∀ (f a : Nat) (nl : Bool) (acc : List Tk), (runM xs a nl acc f).e = 0 → (runM xs a nl acc f).a = 0 := by
  intro f
  induction f with
  | zero => intro a nl acc _; rfl
  | succ f ih =>
    intro a nl acc
    rw [runM]
    split
    · split
      · intro h; exact absurd h (by assumption)
      · split
        · exact ih _ _ _
        · split
          · intro h; exact absurd h (by assumption)
          · exact ih _ _ _
    · intro _; rfl
theorem run_no (xs : List Nat) : ∀ (f a : Nat) (nl : Bool) (acc : List Tk), (runM xs a nl acc f).e ≠ 0 → (runM xs a nl acc f).l = [] := by
  intro f
  induction f with
  | zero => intro a nl acc h; exact absurd rfl h
  | succ f ih =>
    intro a nl acc
    rw [runM]
    split
    · split
      · intro _; rfl
      · split
        · exact ih _ _ _
        · split
          · intro _; rfl
          · exact ih _ _ _
    · intro h; exact absurd rfl h
theorem behind_behind (a b : List Tk) (r : Tr) : behind a (behind b r) = behind (a ++ b) r := by
  unfold behind
  by_cases h : r.e = 0
  · simp [h]
  · simp [h]
theorem behind_no (acc : List Tk) {a e : Nat} (h : e ≠ 0) : behind acc ⟨[], a, e⟩ = ⟨[], a, e⟩ := by unfold behind; rw [if_neg h]
theorem run_acc (xs : List Nat) : ∀ (f a : Nat) (nl : Bool) (acc : List Tk), runM xs a nl acc f = behind acc (runM xs a nl [] f) := by
  intro f
  induction f with
  | zero => intro a nl acc; unfold behind; rfl
  | succ f ih =>
    intro a nl acc
    rw [runM, runM]
    by_cases h1 : a < xs.length
    · rw [if_pos h1, if_pos h1]
      by_cases h2 : (skpM (xs.drop a)).e ≠ 0
      · rw [if_pos h2, if_pos h2, behind_no _ h2]
      · rw [if_neg h2, if_neg h2]
        by_cases h3 : 0 < (skpM (xs.drop a)).n
        · rw [if_pos h3, if_pos h3]; exact ih _ _ _
        · rw [if_neg h3, if_neg h3]
          by_cases h4 : (redM (xs.drop a) (decide (a = 0))).e ≠ 0
          · rw [if_pos h4, if_pos h4, behind_no _ h4]
          · rw [if_neg h4, if_neg h4, ih _ _ (acc ++ _), ih _ _ ([] ++ _), behind_behind, List.nil_append]
    · rw [if_neg h1, if_neg h1]
      unfold behind
      rfl
theorem run_end2 (xs : List Nat) (a : Nat) (nl : Bool) (acc : List Tk) (f : Nat) (h : ¬ a < xs.length) : runM xs a nl acc f = ⟨acc ++ [{ tk0 with a := a, nl := nl }], 0, 0⟩ := by
  cases f with
  | zero => rfl
  | succ f => rw [runM, if_neg h]
theorem run_fuel (xs : List Nat) : ∀ (f g a : Nat) (nl : Bool) (acc : List Tk), xs.length ≤ a + f → xs.length ≤ a + g → runM xs a nl acc f = runM xs a nl acc g := by
  intro f
  induction f with
  | zero =>
    intro g a nl acc h1 h2
    rw [run_end2 xs a nl acc 0 (by omega), run_end2 xs a nl acc g (by omega)]
  | succ f ih =>
    intro g a nl acc h1 h2
    by_cases ha : a < xs.length
    · obtain ⟨g, rfl⟩ : ∃ k, g = k + 1 := ⟨g - 1, by omega⟩
      have h0 : 0 < (xs.drop a).length := by rw [List.length_drop]; omega
      rw [runM, runM, if_pos ha, if_pos ha]
      by_cases h2 : (skpM (xs.drop a)).e ≠ 0
      · rw [if_pos h2, if_pos h2]
      · rw [if_neg h2, if_neg h2]
        by_cases h3 : 0 < (skpM (xs.drop a)).n
        · rw [if_pos h3, if_pos h3]; exact ih _ _ _ _ (by omega) (by omega)
        · rw [if_neg h3, if_neg h3]
          by_cases h4 : (redM (xs.drop a) (decide (a = 0))).e ≠ 0
          · rw [if_pos h4, if_pos h4]
          · rw [if_neg h4, if_neg h4]
            have hp := (red_n _ (decide (a = 0)) h0 (by omega)).1
            exact ih _ _ _ _ (by omega) (by omega)
    · rw [run_end2 xs a nl acc _ ha, run_end2 xs a nl acc g ha]
theorem mvR_no {d a e : Nat} (h : e ≠ 0) : mvR d ⟨[], a, e⟩ = ⟨[], a + d, e⟩ := by unfold mvR; rw [if_neg h]
theorem mvR_behind (d : Nat) (acc : List Tk) (r : Tr) : mvR d (behind acc r) = behind (acc.map (mv d)) (mvR d r) := by
  unfold mvR behind
  by_cases h : r.e = 0
  · simp [h]
  · simp [h]
/-- Units ahead. -/
theorem run_move (p xs : List Nat) (hp : 0 < p.length) (h : uAt xs 0 ≠ 35) : ∀ (f a : Nat) (nl : Bool), runM (p ++ xs) (p.length + a) nl [] f = mvR p.length (runM xs a nl [] f) := by
  intro f
  induction f with
  | zero =>
    intro a nl
    show (⟨_, _, _⟩ : Tr) = mvR _ ⟨_, _, _⟩
    unfold mvR
    simp [mv, Nat.add_comm]
  | succ f ih =>
    intro a nl
    rw [runM, runM]
    have ed : (p ++ xs).drop (p.length + a) = xs.drop a := by rw [List.drop_append, List.drop_eq_nil_of_le (by omega), Nat.add_sub_cancel_left, List.nil_append]
    have hr : redM (xs.drop a) (decide (p.length + a = 0)) = redM (xs.drop a) (decide (a = 0)) := by
      by_cases a0 : a = 0
      · subst a0; exact red_z2 _ _ _ h
      · rw [decide_eq_false a0, decide_eq_false (by omega)]
    rw [ed, hr]
    by_cases h1 : a < xs.length
    · rw [if_pos h1, if_pos (by rw [List.length_append]; omega)]
      by_cases h2 : (skpM (xs.drop a)).e ≠ 0
      · rw [if_pos h2, if_pos h2, mvR_no h2, Nat.add_comm]
      · rw [if_neg h2, if_neg h2]
        by_cases h3 : 0 < (skpM (xs.drop a)).n
        · rw [if_pos h3, if_pos h3, Nat.add_assoc]; exact ih _ _
        · rw [if_neg h3, if_neg h3]
          by_cases h4 : (redM (xs.drop a) (decide (a = 0))).e ≠ 0
          · rw [if_pos h4, if_pos h4, mvR_no h4, Nat.add_comm]
          · rw [if_neg h4, if_neg h4, run_acc, run_acc xs, Nat.add_assoc, ih, mvR_behind]
            congr 1
            simp [mv, Nat.add_comm]
    · rw [if_neg h1, if_neg (by rw [List.length_append]; omega)]
      unfold mvR
      simp [mv, Nat.add_comm]
/-- A line end ahead. -/
theorem run_nl (xs : List Nat) : ∀ (f a : Nat) (nl : Bool), runM xs a true [] f = nlR (runM xs a nl [] f) := by
  intro f
  induction f with
  | zero => intro a nl; rfl
  | succ f ih =>
    intro a nl
    rw [runM, runM]
    by_cases h1 : a < xs.length
    · rw [if_pos h1, if_pos h1]
      by_cases h2 : (skpM (xs.drop a)).e ≠ 0
      · rw [if_pos h2, if_pos h2]; unfold nlR; rw [if_neg h2]
      · rw [if_neg h2, if_neg h2]
        by_cases h3 : 0 < (skpM (xs.drop a)).n
        · rw [if_pos h3, if_pos h3, Bool.true_or]; exact ih _ _
        · rw [if_neg h3, if_neg h3]
          by_cases h4 : (redM (xs.drop a) (decide (a = 0))).e ≠ 0
          · rw [if_pos h4, if_pos h4]; unfold nlR; rw [if_neg h4]
          · rw [if_neg h4, if_neg h4, run_acc, run_acc xs f _ _ ([] ++ [_])]
            generalize runM xs (a + (redM (xs.drop a) (decide (a = 0))).n) false [] f = r
            unfold nlR behind
            by_cases h5 : r.e = 0
            · simp [h5, nl1]
            · simp [h5]
    · rw [if_neg h1, if_neg h1]
      rfl
theorem skp_blank (c : Nat) (xs : List Nat) (h : c = 32 ∨ c = 10) : skpM (c :: xs) = ⟨1, decide (c = 10), 0⟩ := by
  rcases h with rfl | rfl <;> rfl
theorem tok_ahead (c : Nat) (xs : List Nat) (hc : c = 32 ∨ c = 10) (h : uAt xs 0 ≠ 35) (hl : xs.length ≤ 4095) : tokM (c :: xs) = mvR 1 (if c = 10 then nlR (tokM xs) else tokM xs) := by
  have e1 : tokM xs = runM xs 0 false [] xs.length := by unfold tokM; rw [if_neg (by omega)]
  have e2 : tokM (c :: xs) = runM (c :: xs) 0 false [] (xs.length + 1) := by unfold tokM; rw [if_neg (by simp; omega)]; rfl
  rw [e1, e2, runM, if_pos (by simp)]
  simp only [List.drop_zero]
  rw [skp_blank c xs hc]
  simp only [ne_eq, not_true_eq_false, if_false, Nat.lt_add_one, if_true, Nat.zero_add, Bool.false_or]
  have e := run_move [c] xs (by simp) h xs.length 0 (decide (c = 10))
  rw [show [c].length + 0 = 1 from rfl, show [c].length = 1 from rfl, List.singleton_append] at e
  rw [e]
  congr 1
  rcases hc with rfl | rfl
  · rw [if_neg (by decide)]; rfl
  · rw [if_pos rfl]; exact run_nl xs _ _ _

theorem run_ne (xs : List Nat) : ∀ (f a : Nat) (nl : Bool) (acc : List Tk), (runM xs a nl acc f).e = 0 → 0 < (runM xs a nl acc f).l.length := by
  intro f
  induction f with
  | zero => intro a nl acc _; simp [runM]
  | succ f ih =>
    intro a nl acc
    rw [runM]
    split
    · split
      · intro h; exact absurd h (by assumption)
      · split
        · exact ih _ _ _
        · split
          · intro h; exact absurd h (by assumption)
          · exact ih _ _ _
    · intro _; simp
theorem mv_get {L : List Tk} {k : Nat} (h : k < L.length) : (L.map (mv 1))[k]? = some (mv 1 L[k]) := by
  rw [List.getElem?_map, List.getElem?_eq_getElem h]; rfl
theorem nl1_get {L : List Tk} {k : Nat} (h : k < L.length) : ((nl1 L).map (mv 1))[k]? = some (mv 1 { L[k] with nl := L[k].nl || decide (k = 0) }) := by
  rw [List.getElem?_map]
  cases L with
  | nil => simp at h
  | cons t l =>
    cases k with
    | zero => simp [nl1]
    | succ k =>
      have hl : k < l.length := by simpa using h
      simp only [nl1, List.getElem?_cons_succ, List.getElem?_eq_getElem hl, List.getElem_cons_succ, Option.map_some, Nat.succ_ne_zero, decide_false, Bool.or_false]
theorem nl1_len (L : List Tk) : (nl1 L).length = L.length := by cases L <;> rfl

theorem run_bd (xs : List Nat) : ∀ (f a : Nat) (nl : Bool) (acc : List Tk), a ≤ xs.length → (∀ t ∈ acc, t.a ≤ xs.length) → (∀ t ∈ (runM xs a nl acc f).l, t.a ≤ xs.length) ∧ (runM xs a nl acc f).a ≤ xs.length ∧ (runM xs a nl acc f).l.length ≤ acc.length + (xs.length - a) + 1 := by
  have fin : ∀ (a : Nat) (nl : Bool) (acc : List Tk), a ≤ xs.length → (∀ t ∈ acc, t.a ≤ xs.length) → (∀ t ∈ acc ++ [{ tk0 with a := a, nl := nl }], t.a ≤ xs.length) ∧ 0 ≤ xs.length ∧ (acc ++ [{ tk0 with a := a, nl := nl }]).length ≤ acc.length + (xs.length - a) + 1 := by
    intro a nl acc h1 h2
    refine ⟨fun t ht => ?_, Nat.zero_le _, by rw [List.length_append, List.length_cons, List.length_nil]; omega⟩
    rcases List.mem_append.1 ht with h | h
    · exact h2 t h
    · simp at h; subst h; exact h1
  intro f
  induction f with
  | zero => intro a nl acc h1 h2; exact fin a nl acc h1 h2
  | succ f ih =>
    intro a nl acc h1 h2
    rw [runM]
    by_cases ha : a < xs.length
    · have h0 : 0 < (xs.drop a).length := by rw [List.length_drop]; omega
      have hl : (xs.drop a).length = xs.length - a := List.length_drop
      rw [if_pos ha]
      by_cases h3 : (skpM (xs.drop a)).e ≠ 0
      · rw [if_pos h3]; exact ⟨fun t ht => by simp at ht, h1, by simp⟩
      · rw [if_neg h3]
        by_cases h4 : 0 < (skpM (xs.drop a)).n
        · rw [if_pos h4]
          have hs := skp_n (xs.drop a) h0
          obtain ⟨q1, q2, q3⟩ := ih (a + (skpM (xs.drop a)).n) (nl || (skpM (xs.drop a)).l) acc (by omega) h2
          exact ⟨q1, q2, by omega⟩
        · rw [if_neg h4]
          by_cases h5 : (redM (xs.drop a) (decide (a = 0))).e ≠ 0
          · rw [if_pos h5]; exact ⟨fun t ht => by simp at ht, h1, by simp⟩
          · rw [if_neg h5]
            have hr := red_n (xs.drop a) (decide (a = 0)) h0 (by omega)
            obtain ⟨q1, q2, q3⟩ := ih (a + (redM (xs.drop a) (decide (a = 0))).n) false (acc ++ [{ (redM (xs.drop a) (decide (a = 0))).t with a := a, nl := nl }]) (by omega) (fun t ht => by
              rcases List.mem_append.1 ht with h | h
              · exact h2 t h
              · simp at h; subst h; exact h1)
            refine ⟨q1, q2, Nat.le_trans q3 ?_⟩
            rw [List.length_append, List.length_cons, List.length_nil]
            omega
    · rw [if_neg ha]; exact fin a nl acc h1 h2
end Go.Proofs.YtaigkjffglbknaaDoor
