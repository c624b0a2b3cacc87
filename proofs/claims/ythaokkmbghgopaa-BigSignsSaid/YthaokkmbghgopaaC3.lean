/- Contracts: isZero, compare. -/
import Derived.Test.YthaokkmbghgopaaC2
namespace Go.Proofs.Ythaokkmbghgopaa
open Go.RowKit


theorem trim_ex (xs : List Nat) : ∀ k, k ≤ xs.length → Zer xs k → ∃ j, j ≤ k ∧ Zer xs j ∧ (j = 0 ∨ lim xs (j - 1) ≠ 0)
  | 0, _, h => ⟨0, Nat.le_refl _, h, .inl rfl⟩
  | k + 1, hk, h => by
    by_cases hv : lim xs k = 0
    · obtain ⟨j, h1, h2, h3⟩ := trim_ex xs k (by omega) (h.down hv)
      exact ⟨j, by omega, h2, h3⟩
    · exact ⟨k + 1, Nat.le_refl _, h, .inr (by simpa using hv)⟩
theorem dig_head {xs : List Nat} (ho : okL xs) : xs.take (dig (val xs)).length = dig (val xs) ∧ (dig (val xs)).length ≤ xs.length := by
  obtain ⟨j, h1, h2, h3⟩ := trim_ex xs xs.length (Nat.le_refl _) (Zer.all xs)
  have e := trim_k ho h1 h2 h3
  have el : (dig (val xs)).length = j := by rw [← e, List.length_take, Nat.min_eq_left h1]
  rw [el]
  exact ⟨e, h1⟩
theorem Lim.dig {w : World} {A : Option Addr} {xs : List Nat} (h : Lim w A xs) : Lim w A (dig (val xs)) := by
  rw [← (dig_head h.1).1]
  exact h.take _
theorem dig_len_zero {n : Nat} : (((dig n).length : Int) == 0) = (n == 0) := by
  by_cases h : n = 0
  · subst h; rw [dig_zero]; rfl
  · have e : (dig n).length = (dig (n / B)).length + 1 := by rw [dig_pos h]; rfl
    have e1 : (((dig n).length : Int) == 0) = false := by rw [e]; simp; omega
    have e2 : (n == 0) = false := by simpa using h
    rw [e1, e2]

theorem isZero_c (A : Option Addr) (xs : List Nat) (c : Nat) (w : World) (h : Lim w A xs) (hl : xs.length ≤ c) (hc : c ≤ 9223372036854775807) :
    Calls Try.prog 69 #[.slice A xs.length c] w fun e w' => e = .returned (.bool (val xs == 0)) ∧ w = w' := by
  have HZ := Lib.hid (dig_len_zero (n := val xs))
  go_enter Try.func69, Try.ntmps69
  go_wp2_with (go_at_call 84; refine (trim_c _ _ _ _ h hl hc).mono ?_; rintro e w1 ⟨rfl, rfl⟩)
  go_ret
  exact ⟨by rw [← HZ.out]; rfl, rfl⟩

theorem limb_i (A : Option Addr) (xs : List Nat) (n c : Nat) (i : Int) (k : Nat) (w : World) (h : Lim w A xs) (hn : n = xs.length) (hi : i = k) :
    Calls Try.prog 75 #[.slice A n c, .int .i64 i] w fun e w' => e = .returned (.int .u32 (lim xs k : Nat)) ∧ w = w' := by
  subst hi hn
  exact limb_c A xs c k w h

set_option maxHeartbeats 1000000 in
theorem compare_c (A C : Option Addr) (xs ys : List Nat) (c d : Nat) (w : World) (h : Lim w A xs) (k : Lim w C ys) (hl : xs.length ≤ 1152921504606846976) (kl : ys.length ≤ 1152921504606846976) :
    Calls Try.prog 54 #[.slice A xs.length c, .slice C ys.length d] w fun e w' => e = .returned (.int .i64 (cmpI (val xs) (val ys))) ∧ w = w' := by
  by_cases hlt : xs.length < ys.length
  all_goals
    go_enter Try.func54, Try.ntmps54
    go_wp2
    go_step3
    go_wp2
    go_step3
    go_wp2
    go_loop [5] (fun s => ∃ m : Nat, m ≤ 1152921504606846976 ∧ s = .int .i64 (m - 1 : Int) ∧ CmpAt xs ys m) (fun s => (intOf s + 1).toNat)
    case atStart => first | exact ⟨ys.length, kl, rfl, CmpAt.top (by omega) (by omega)⟩ | exact ⟨xs.length, hl, rfl, CmpAt.top (by omega) (by omega)⟩
    case round =>
      obtain ⟨m, hm, rfl, hz⟩ := hrel
      rcases m with _ | m
      · have HE := Lib.hid (cmpI_eq hz.zero)
        go_wp2
        first | rw [Exit.noGoto_ret] | skip
        go_ret
        exact ⟨by rw [HE.out]; rfl, rfl⟩
      · have em : ((m + 1 : Nat) : Int) - 1 = m := by omega
        rw [em]
        rcases Nat.lt_trichotomy (lim xs m) (lim ys m) with hv | hv | hv
        · have HE := Lib.hid (cmpI_lt (hz.less h.1 hv))
          have b1 : ((lim xs m : Int) == (lim ys m : Int)) = false := by simp; omega
          have b2 : decide ((lim xs m : Int) < (lim ys m : Int)) = true := by simp [hv]
          have b3 : decide (lim xs m < lim ys m) = true := by simp [hv]
          go_wp2_with (first | (go_at_call_of 75 (Value.slice A xs.length c); refine (limb_c A xs c m _ h).mono ?_; rintro e w1 ⟨rfl, rfl⟩) | (go_at_call_of 75 (Value.slice C ys.length d); refine (limb_c C ys d m _ k).mono ?_; rintro e w1 ⟨rfl, rfl⟩))
          rw [Exit.noGoto_ret]
          go_ret
          exact ⟨by rw [HE.out]; rfl, rfl⟩
        · have HS := Lib.hid (hz.same hv)
          have b1 : ((lim xs m : Int) == (lim ys m : Int)) = true := by simp [hv]
          go_wp2_with (first | (go_at_call_of 75 (Value.slice A xs.length c); refine (limb_c A xs c m _ h).mono ?_; rintro e w1 ⟨rfl, rfl⟩) | (go_at_call_of 75 (Value.slice C ys.length d); refine (limb_c C ys d m _ k).mono ?_; rintro e w1 ⟨rfl, rfl⟩))
          go_round
          case rel => exact ⟨m, by omega, rfl, HS.out⟩
          case measure => simp [intOf]
        · have HE := Lib.hid (cmpI_gt (hz.swap.less k.1 hv))
          have b1 : ((lim xs m : Int) == (lim ys m : Int)) = false := by simp; omega
          have b2 : decide ((lim xs m : Int) < (lim ys m : Int)) = false := by simp; omega
          have b3 : decide (lim xs m < lim ys m) = false := by simp; omega
          go_wp2_with (first | (go_at_call_of 75 (Value.slice A xs.length c); refine (limb_c A xs c m _ h).mono ?_; rintro e w1 ⟨rfl, rfl⟩) | (go_at_call_of 75 (Value.slice C ys.length d); refine (limb_c C ys d m _ k).mono ?_; rintro e w1 ⟨rfl, rfl⟩))
          rw [Exit.noGoto_ret]
          go_ret
          exact ⟨by rw [HE.out]; rfl, rfl⟩
end Go.Proofs.Ythaokkmbghgopaa
