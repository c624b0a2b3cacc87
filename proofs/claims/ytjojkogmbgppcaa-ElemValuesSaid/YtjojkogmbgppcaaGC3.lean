/- Contracts: isZero, compare. -/
import Derived.Test.YtjojkogmbgppcaaGC2
namespace Go.Proofs.Ytjojkogmbgppcaa.Bg
open Go.RowKit


theorem trim_ex (xs : List Nat) : ∀ k, k ≤ xs.length → Zer xs k → ∃ j, j ≤ k ∧ Zer xs j ∧ (j = 0 ∨ lim xs (j - 1) ≠ 0)
  | 0, _, h => ⟨0, Nat.le_refl _, h, .inl rfl⟩
  | k + 1, hk, h => by
    by_cases hv : lim xs k = 0
    · obtain ⟨j, h1, h2, h3⟩ := trim_ex xs k (by omega) (h.down hv)
      exact ⟨j, by omega, h2, h3⟩
    · exact ⟨k + 1, Nat.le_refl _, h, .inr (by simpa using hv)⟩
theorem dig_head {xs : List Nat} (ho : okL xs) : xs.take (dig (val xs)).length = dig (val xs) ∧ (dig (val xs)).length ≤ xs.length := by
  obtain ⟨j, h1, h2, h3⟩ := trim_ex xs xs.length (Nat.le_refl _) (Zer.all xs)
  have e := trim_k ho h1 h2 h3
  have el : (dig (val xs)).length = j := by rw [← e, List.length_take, Nat.min_eq_left h1]
  rw [el]
  exact ⟨e, h1⟩
theorem Lim.dig {w : World} {A : Option Addr} {xs : List Nat} (h : Lim w A xs) : Lim w A (dig (val xs)) := by
  rw [← (dig_head h.1).1]
  exact h.take _
theorem dig_len_zero {n : Nat} : (((dig n).length : Int) == 0) = (n == 0) := by
  by_cases h : n = 0
  · subst h; rw [dig_zero]; rfl
  · have e : (dig n).length = (dig (n / B)).length + 1 := by rw [dig_pos h]; rfl
    have e1 : (((dig n).length : Int) == 0) = false := by rw [e]; simp; omega
    have e2 : (n == 0) = false := by simpa using h
    rw [e1, e2]

theorem isZero_c (A : Option Addr) (xs : List Nat) (c : Nat) (w : World) (h : Lim w A xs) (hl : xs.length ≤ c) (hc : c ≤ 9223372036854775807) :
    Calls Try.prog 64 #[.slice A xs.length c] w fun e w' => e = .returned (.bool (val xs == 0)) ∧ w = w' := by
  have HZ := Lib.hid (dig_len_zero (n := val xs))
  go_enter Try.func64, Try.ntmps64
  go_wp2_with (go_at_call 69; refine (trim_c _ _ _ _ h hl hc).mono ?_; rintro e w1 ⟨rfl, rfl⟩)
  go_ret
  exact ⟨by rw [← HZ.out]; rfl, rfl⟩

theorem limb_i (A : Option Addr) (xs : List Nat) (n c : Nat) (i : Int) (k : Nat) (w : World) (h : Lim w A xs) (hn : n = xs.length) (hi : i = k) :
    Calls Try.prog 52 #[.slice A n c, .int .i64 i] w fun e w' => e = .returned (.int .u32 (lim xs k : Nat)) ∧ w = w' := by
  subst hi hn
  exact limb_c A xs c k w h

end Go.Proofs.Ytjojkogmbgppcaa.Bg
