/- The document's BigInts: Add, Sub, named. -/
import Derived.Test.YthaokkmbghgopaaD10
namespace Go.Proofs.Ythaokkmbghgopaa
open Go.RowKit

section
variable {pb : Bool} {us : List Nat} {r : Int}

theorem rAdd_n {an bn : Bool} {A C : Option Addr} {xs ys : List Nat} {n c m d : Nat} {a b : Int} (hA : Hid (bigI an xs = a)) (hB : Hid (bigI bn ys = b)) {ok : Bool} (hr : Hid (AddN a b r ok pb us)) (w : World) (ha : Arg w A xs n c) (hb : Arg w C ys m d) : Calls Try.prog 18 #[.agg #[.bool an, .slice A n c], .agg #[.bool bn, .slice C m d]] w fun e w' => ∃ (A1 : Option Addr) (c1 : Nat), e = .returned (.tuple #[.agg #[.bool pb, .slice A1 us.length c1], .bool ok]) ∧ Arg w' A1 us us.length c1 ∧ Plus w w' := by
  have hab : (bigI an xs).natAbs < B ^ 8 := bigI_abs ha.lim.1
  have hbb : (bigI bn ys).natAbs < B ^ 8 := bigI_abs hb.lim.1
  obtain ⟨h1, h2, h3⟩ := hr.out
  have ⟨e1, e2, e3⟩ := h1
  by_cases hs : (a + b).natAbs < B ^ 8
  · rw [if_pos hs] at h3
    obtain rfl : ok = true := h2.trans (decide_eq_true hs)
    have h := rAdd_y an bn _ _ pb A C xs ys n c m d _ _ us r (Lib.hid ⟨rfl, rfl⟩) (Lib.hid ⟨rfl, rfl⟩) (Lib.hid (dig_len_le hab)) (Lib.hid (dig_len_le hbb)) (Lib.hid (by rw [val_dig, val_dig, sgn_self, sgn_self, hA.out, hB.out]; (try omega))) (Lib.hid ⟨e1, e2⟩) (Lib.hid (by rw [← e2]; exact dig_len_le e3)) w (Lib.hid ha) (Lib.hid hb)
    exact h.mono fun _ _ ⟨A1, c1, q0, q1, q2, q3, q4⟩ => ⟨A1, c1, q0, h1.arg (by rw [e2]; exact q1) q2 (by rw [e2]; exact q3), q4⟩
  · rw [if_neg hs] at h3
    obtain rfl : ok = false := h2.trans (decide_eq_false hs)
    subst h3
    have h := rAdd_no an bn _ _ _ A C xs ys n c m d _ _ _ (a + b) (Lib.hid ⟨rfl, rfl⟩) (Lib.hid ⟨rfl, rfl⟩) (Lib.hid (dig_len_le hab)) (Lib.hid (dig_len_le hbb)) (Lib.hid (by rw [val_dig, val_dig, sgn_self, sgn_self, hA.out, hB.out]; (try omega))) (Lib.hid ⟨rfl, rfl⟩) (Lib.hid (Nat.lt_of_not_le fun q => hs (dig_long.1 q))) w (Lib.hid ha) (Lib.hid hb)
    have e4 : us = [] := by rw [← e2]; exact dig_zero
    have e5 : pb = false := by rw [← e1]; rfl
    subst e4 e5
    exact h.mono fun _ _ ⟨q0, q1⟩ => ⟨none, 0, q0, h1.arg (by rw [e2]; exact Nat.le_refl _) (by omega) (by rw [e2]; exact Lim.nil), q1⟩

theorem rSub_n {an bn : Bool} {A C : Option Addr} {xs ys : List Nat} {n c m d : Nat} {a b : Int} (hA : Hid (bigI an xs = a)) (hB : Hid (bigI bn ys = b)) {ok : Bool} (hr : Hid (SubN a b r ok pb us)) (w : World) (ha : Arg w A xs n c) (hb : Arg w C ys m d) : Calls Try.prog 20 #[.agg #[.bool an, .slice A n c], .agg #[.bool bn, .slice C m d]] w fun e w' => ∃ (A1 : Option Addr) (c1 : Nat), e = .returned (.tuple #[.agg #[.bool pb, .slice A1 us.length c1], .bool ok]) ∧ Arg w' A1 us us.length c1 ∧ Plus w w' := by
  have hab : (bigI an xs).natAbs < B ^ 8 := bigI_abs ha.lim.1
  have hbb : (bigI bn ys).natAbs < B ^ 8 := bigI_abs hb.lim.1
  obtain ⟨h1, h2, h3⟩ := hr.out
  have ⟨e1, e2, e3⟩ := h1
  by_cases hs : (a - b).natAbs < B ^ 8
  · rw [if_pos hs] at h3
    obtain rfl : ok = true := h2.trans (decide_eq_true hs)
    have h := rSub_y an bn _ _ pb A C xs ys n c m d _ _ us r (Lib.hid ⟨rfl, rfl⟩) (Lib.hid ⟨rfl, rfl⟩) (Lib.hid (dig_len_le hab)) (Lib.hid (dig_len_le (by rw [Int.natAbs_neg]; exact hbb))) (Lib.hid (by rw [val_dig, val_dig, sgn_self, sgn_self, hA.out, hB.out]; (try omega))) (Lib.hid ⟨e1, e2⟩) (Lib.hid (by rw [← e2]; exact dig_len_le e3)) w (Lib.hid ha) (Lib.hid hb)
    exact h.mono fun _ _ ⟨A1, c1, q0, q1, q2, q3, q4⟩ => ⟨A1, c1, q0, h1.arg (by rw [e2]; exact q1) q2 (by rw [e2]; exact q3), q4⟩
  · rw [if_neg hs] at h3
    obtain rfl : ok = false := h2.trans (decide_eq_false hs)
    subst h3
    have h := rSub_no an bn _ _ _ A C xs ys n c m d _ _ _ (a - b) (Lib.hid ⟨rfl, rfl⟩) (Lib.hid ⟨rfl, rfl⟩) (Lib.hid (dig_len_le hab)) (Lib.hid (dig_len_le (by rw [Int.natAbs_neg]; exact hbb))) (Lib.hid (by rw [val_dig, val_dig, sgn_self, sgn_self, hA.out, hB.out]; (try omega))) (Lib.hid ⟨rfl, rfl⟩) (Lib.hid (Nat.lt_of_not_le fun q => hs (dig_long.1 q))) w (Lib.hid ha) (Lib.hid hb)
    have e4 : us = [] := by rw [← e2]; exact dig_zero
    have e5 : pb = false := by rw [← e1]; rfl
    subst e4 e5
    exact h.mono fun _ _ ⟨q0, q1⟩ => ⟨none, 0, q0, h1.arg (by rw [e2]; exact Nat.le_refl _) (by omega) (by rw [e2]; exact Lim.nil), q1⟩
end
end Go.Proofs.Ythaokkmbghgopaa
