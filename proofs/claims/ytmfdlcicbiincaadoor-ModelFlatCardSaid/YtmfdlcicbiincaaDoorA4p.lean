/- A flat memory's log, plainly. -/
import Derived.Lib.Hide
import Derived.Test.YtmfdlcicbiincaaDoorMV
import Derived.Test.YtmfdlcicbiincaaDoorNP
namespace Go.Proofs.YtmfdlcicbiincaaDoor
open Go.RowKit


/-- A store; or a load of what the last store ahead stored. -/
def GoodE (l : List Ev) (r : Nat) : Prop := (∃ a x s, (0 ≤ a ∧ a < 64) ∧ (0 ≤ x ∧ x < 256) ∧ l.getD r default = stE a x s) ∨ ∃ a x f s, (0 ≤ a ∧ a < 64) ∧ (0 ≤ x ∧ x < 256) ∧ l.getD r default = ldE a x f s ∧ ((f = -1 ∧ x = 0) ∨ ∃ (g : Nat) (a' : Int) (s' : Bool), f = (g : Int) ∧ g < r ∧ l.getD g default = stE a' x s') ∧ ∀ v : Nat, f < v → v < r → writesM (l.getD v default).k = false
/-- The log so far, the last store and what it stored. -/
def FlP (l : List Ev) (last val : Int) : Prop := (∀ r, r < l.length → GoodE l r) ∧ (0 ≤ val ∧ val < 256) ∧ ((last = -1 ∧ val = 0) ∨ ∃ (g : Nat) (a' : Int) (s' : Bool), last = (g : Int) ∧ g < l.length ∧ l.getD g default = stE a' val s') ∧ ∀ v : Nat, last < v → v < l.length → writesM (l.getD v default).k = false
section
variable {l : List Ev} {last val : Int}
theorem app_lt {e : Ev} {r : Nat} (h : r < l.length) : (l ++ [e]).getD r default = l.getD r default := by
  rw [List.getD_eq_getElem?_getD, List.getD_eq_getElem?_getD, List.getElem?_append_left h]
theorem app_eq {e : Ev} : (l ++ [e]).getD l.length default = e := by
  rw [List.getD_eq_getElem?_getD, List.getElem?_append_right (Nat.le_refl _)]
  simp
theorem good_app {e : Ev} {r : Nat} (h : r < l.length) (k : GoodE l r) : GoodE (l ++ [e]) r := by
  unfold GoodE at k ⊢
  rw [app_lt h]
  rcases k with k | ⟨a, x, f, s, h1, h2, h3, h4, h5⟩
  · exact .inl k
  · refine .inr ⟨a, x, f, s, h1, h2, h3, ?_, fun v hv1 hv2 => ?_⟩
    · rcases h4 with h4 | ⟨g, a', s', g1, g2, g3⟩
      · exact .inl h4
      · exact .inr ⟨g, a', s', g1, g2, by rw [app_lt (by omega)]; exact g3⟩
    · rw [app_lt (by omega)]
      exact h5 v hv1 hv2
theorem FlP.nil : FlP [] (-1) 0 := ⟨fun r h => absurd h (by simp), by omega, .inl ⟨rfl, rfl⟩, fun v _ h => absurd h (by simp)⟩
theorem FlP.st (h : FlP l last val) {a x : Int} {s : Bool} (ha : 0 ≤ a ∧ a < 64) (hx : 0 ≤ x ∧ x < 256) : FlP (l ++ [stE a x s]) l.length x := by
  refine ⟨fun r hr => ?_, hx, .inr ⟨l.length, a, s, rfl, by rw [List.length_append]; simp, app_eq⟩, fun v h1 h2 => ?_⟩
  · rw [List.length_append, List.length_singleton] at hr
    by_cases e : r = l.length
    · subst e
      exact .inl ⟨a, x, s, ha, hx, app_eq⟩
    · exact good_app (by omega) (h.1 r (by omega))
  · rw [List.length_append, List.length_singleton] at h2
    omega
theorem FlP.ld (h : FlP l last val) {a : Int} {s : Bool} (ha : 0 ≤ a ∧ a < 64) : FlP (l ++ [ldE a val last s]) last val := by
  obtain ⟨h1, h2, h3, h4⟩ := h
  refine ⟨fun r hr => ?_, h2, ?_, fun v g1 g2 => ?_⟩
  · rw [List.length_append, List.length_singleton] at hr
    by_cases e : r = l.length
    · subst e
      refine .inr ⟨a, val, last, s, ha, h2, app_eq, ?_, fun v g1 g2 => ?_⟩
      · rcases h3 with h3 | ⟨g, a', s', q1, q2, q3⟩
        · exact .inl h3
        · exact .inr ⟨g, a', s', q1, q2, by rw [app_lt q2]; exact q3⟩
      · rw [app_lt g2]
        exact h4 v g1 g2
    · exact good_app (by omega) (h1 r (by omega))
  · rcases h3 with h3 | ⟨g, a', s', q1, q2, q3⟩
    · exact .inl h3
    · exact .inr ⟨g, a', s', q1, by rw [List.length_append]; omega, by rw [app_lt q2]; exact q3⟩
  · rw [List.length_append, List.length_singleton] at g2
    by_cases e : v = l.length
    · subst e
      rw [app_eq]
      rfl
    · rw [app_lt (by omega)]
      exact h4 v g1 (by omega)
theorem st_shaped {a x : Int} {s : Bool} (ha : 0 ≤ a ∧ a < 64) : shapedM (stE a x s) = true := by
  unfold shapedM stE
  simp [rangedM, filledM]
  omega
theorem ld_shaped {a x f : Int} {s : Bool} (ha : 0 ≤ a ∧ a < 64) : shapedM (ldE a x f s) = true := by
  unfold shapedM ldE
  simp [rangedM, filledM]
  omega
theorem fl_may (h : FlP l last val) (hl : l.length ≤ 1000) : MayP l [] := by
  refine ⟨hl, by simp, fun i h => absurd h (by simp), fun n hn => ?_⟩
  rcases h.1 n hn with ⟨a, x, s, h1, h2, h3⟩ | ⟨a, x, f, s, h1, h2, h3, h4, h5⟩
  · unfold okEv
    rw [h3]
    exact ⟨st_shaped h1, fun i hi => absurd hi (by simp [stE])⟩
  · unfold okEv
    rw [h3]
    refine ⟨ld_shaped h1, fun i hi => ?_⟩
    have hi0 : i = 0 := by
      have hi' : i < 1 := hi
      omega
    subst hi0
    unfold readAt originM
    have e1 : (ldE a x f s).f.getD 0 0 = f := rfl
    have e2 : (ldE a x f s).r.getD 0 0 = x := rfl
    have e3 : (ldE a x f s).b = 0 := rfl
    have e4 : (ldE a x f s).a + ((0 : Nat) : Int) = 0 := rfl
    rw [e1, e2, e3, e4]
    rcases h4 with ⟨rfl, rfl⟩ | ⟨g, a', s', rfl, g1, g2⟩
    · rfl
    · have e5 : (l.take n).getD (Int.toNat (g : Int)) default = stE a' x s' := by
        rw [Int.toNat_natCast, getD_takeE g1, g2]
      have hlt : (l.take n).length = n := by rw [List.length_take]; omega
      rw [if_neg (by omega), if_neg (by rw [hlt]; omega)]
      simp only [e5]
      rw [if_neg (by simp [stE, writesM])]
      rfl
theorem fl_one (h : FlP l last val) {r i : Nat} (hr : r < l.length) (hi : i < (l.getD r default).f.length) : i = 0 ∧ ∀ v : Nat, frA l r i < v → v < r → writesM (l.getD v default).k = false := by
  rcases h.1 r hr with ⟨a, x, s, h1, h2, h3⟩ | ⟨a, x, f, s, h1, h2, h3, h4, h5⟩
  · rw [h3] at hi
    exact absurd hi (by simp [stE])
  · unfold frA
    rw [h3] at hi ⊢
    have hi0 : i = 0 := by
      have hi' : i < 1 := hi
      omega
    subst hi0
    exact ⟨rfl, h5⟩
theorem fl_vld (h : FlP l last val) (hl : l.length ≤ 1000) : VldP l [] l.length (natL l.length) := by
  refine ⟨⟨fun r hr => ?_, fun r hr => ?_⟩, natL_ord (fl_may h hl), fun r hr => ?_⟩
  · rintro ⟨i, hi, v, hv, h1, h2, _⟩
    have q := (fl_one h hr hi).2 v h1 hv
    unfold wrAt wrB at h2
    rw [q] at h2
    cases h2
  · rintro ⟨_, i, j, hi, hj, _, _, h3⟩
    rw [(fl_one h hr hi).1, (fl_one h hr hj).1] at h3
    exact h3 rfl
  · rintro ⟨i, hi, w, p, q, hp, hq, h1, h2, h3, h4, k, k1, k2, k3, _⟩
    rw [natL_at hp] at h3
    rw [natL_at hq] at h4
    rw [natL_at (by omega), Int.toNat_natCast] at k3
    have e := (fl_one h hr hi).2 k (by rw [h1]; omega) (by omega)
    rw [e] at k3
    cases k3
end
end Go.Proofs.YtmfdlcicbiincaaDoor
