/- Contracts of big's smallest functions. Contracts of big's smallest functions. Contracts: isZero, compare. -/
import Derived.WalkKit
import Derived.WalkSpells
import Derived.WalkLawsBesides
import Derived.Handy
import Derived.Deep.RegionHeld3
import Derived.Deep.DeepCutAuto
import Derived.Deep.QuietTactic
import Derived.BigQuiet
import Derived.Lib.Hide
import Derived.KernelRfl
import Derived.WalkMore
import Derived.Deep.LoopGhost
import Derived.Test.YtmlfcmmgoiigkaaGreatDoorProg
import Derived.Test.YtmlfcmmgoiigkaaGreatDoorGW
import Derived.Test.YtmlfcmmgoiigkaaGreatDoorP
namespace Go.Proofs.YtmlfcmmgoiigkaaGreatDoor.Bg
open Go.RowKit


theorem limb_c (A : Option Addr) (xs : List Nat) (c k : Nat) (w : World) (h : Lim w A xs) :
    Calls Tryz.prog 175 #[.slice A xs.length c, .int .i64 k] w fun e w' => e = .returned (.int .u32 (lim xs k : Nat)) ∧ w = w' := by
  by_cases hlt : k < xs.length
  · obtain ⟨ad, rfl, hc⟩ := h.at_ hlt
    go_enter Tryz.func175, Tryz.ntmps175
    go_wp2
    go_ret
    exact ⟨rfl, rfl⟩
  · rw [lim_out (by omega)]
    go_enter Tryz.func175, Tryz.ntmps175
    go_wp2
    go_ret
    exact ⟨rfl, rfl⟩
end Go.Proofs.YtmlfcmmgoiigkaaGreatDoor.Bg

namespace Go.Proofs.YtmlfcmmgoiigkaaGreatDoor.Bg
open Go.RowKit


/-- The limbs from k on are zeros. -/
def Zer (xs : List Nat) (k : Nat) : Prop := ∀ i, k ≤ i → i < xs.length → xs[i]? = some 0
theorem Zer.all (xs : List Nat) : Zer xs xs.length := fun i h1 h2 => absurd h2 (by omega)
theorem Zer.down {xs : List Nat} {k : Nat} (h : Zer xs (k + 1)) (hz : lim xs k = 0) : Zer xs k := fun i h1 h2 => by
  by_cases e : i = k
  · subst e
    rw [List.getElem?_eq_getElem h2, ← lim_in h2, hz]
  · exact h i (by omega) h2
theorem trim_k {xs : List Nat} {k : Nat} (ho : okL xs) (hk : k ≤ xs.length) (h : Zer xs k) (ht : k = 0 ∨ lim xs (k - 1) ≠ 0) : xs.take k = dig (val xs) := dig_take ho h ht hk
theorem cast_ne {a : Nat} (h : a ≠ 0) : ((a : Int) == 0) = false := by simpa using h
theorem cast_eq {a : Nat} (h : a = 0) : ((a : Int) == 0) = true := by subst h; rfl

set_option maxHeartbeats 1000000 in
theorem trim_c (A : Option Addr) (xs : List Nat) (c : Nat) (w : World) (h : Lim w A xs) (hl : xs.length ≤ c) (hc : c ≤ 9223372036854775807) :
    Calls Tryz.prog 138 #[.slice A xs.length c] w fun e w' => e = .returned (.slice A (dig (val xs)).length c) ∧ w = w' := by
  go_enter Tryz.func138, Tryz.ntmps138
  go_wp2
  go_loop [3] (fun s => ∃ k : Nat, k ≤ xs.length ∧ s = .int .i64 k ∧ Zer xs k) (fun s => (intOf s).toNat)
  case atStart => exact ⟨xs.length, Nat.le_refl _, rfl, Zer.all xs⟩
  case round =>
    obtain ⟨k, hk, rfl, hz⟩ := hrel
    by_cases h0 : 0 < k
    · obtain ⟨ad, rfl, hcell⟩ := h.at_ (k := k - 1) (by omega)
      have e1 : ((k : Int) - 1).toNat = k - 1 := by omega
      by_cases hv : lim xs (k - 1) = 0
      · have hb := cast_eq hv
        go_wp2
        go_round
        case rel => exact ⟨k - 1, by omega, by rw [show ((k - 1 : Nat) : Int) = (k : Int) - 1 by omega], Zer.down (by rw [show k - 1 + 1 = k by omega]; exact hz) hv⟩
        case measure => simp [intOf]; omega
      · have hb := cast_ne hv
        have HK := Lib.hid (trim_k h.1 hk hz (.inr hv))
        have HL : Hid ((dig (val xs)).length = k) := by rw [← HK.out, List.length_take, Nat.min_eq_left hk]; exact rfl
        go_wp2
        go_ret
        exact ⟨by rw [HL.out]; rfl, rfl⟩
    · obtain rfl : k = 0 := by omega
      have HK := Lib.hid (trim_k h.1 hk hz (.inl rfl))
      have HL : Hid ((dig (val xs)).length = 0) := by rw [← HK.out, List.length_take, Nat.min_eq_left hk]; exact rfl
      go_wp2
      go_ret
      exact ⟨by rw [HL.out]; rfl, rfl⟩
end Go.Proofs.YtmlfcmmgoiigkaaGreatDoor.Bg

namespace Go.Proofs.YtmlfcmmgoiigkaaGreatDoor.Bg
open Go.RowKit


theorem trim_ex (xs : List Nat) : ∀ k, k ≤ xs.length → Zer xs k → ∃ j, j ≤ k ∧ Zer xs j ∧ (j = 0 ∨ lim xs (j - 1) ≠ 0)
  | 0, _, h => ⟨0, Nat.le_refl _, h, .inl rfl⟩
  | k + 1, hk, h => by
    by_cases hv : lim xs k = 0
    · obtain ⟨j, h1, h2, h3⟩ := trim_ex xs k (by omega) (h.down hv)
      exact ⟨j, by omega, h2, h3⟩
    · exact ⟨k + 1, Nat.le_refl _, h, .inr (by simpa using hv)⟩
theorem dig_head {xs : List Nat} (ho : okL xs) : xs.take (dig (val xs)).length = dig (val xs) ∧ (dig (val xs)).length ≤ xs.length := by
  obtain ⟨j, h1, h2, h3⟩ := trim_ex xs xs.length (Nat.le_refl _) (Zer.all xs)
  have e := trim_k ho h1 h2 h3
  have el : (dig (val xs)).length = j := by rw [← e, List.length_take, Nat.min_eq_left h1]
  rw [el]
  exact ⟨e, h1⟩
theorem Lim.dig {w : World} {A : Option Addr} {xs : List Nat} (h : Lim w A xs) : Lim w A (dig (val xs)) := by
  rw [← (dig_head h.1).1]
  exact h.take _
theorem dig_len_zero {n : Nat} : (((dig n).length : Int) == 0) = (n == 0) := by
  by_cases h : n = 0
  · subst h; rw [dig_zero]; rfl
  · have e : (dig n).length = (dig (n / B)).length + 1 := by rw [dig_pos h]; rfl
    have e1 : (((dig n).length : Int) == 0) = false := by rw [e]; simp; omega
    have e2 : (n == 0) = false := by simpa using h
    rw [e1, e2]

theorem isZero_c (A : Option Addr) (xs : List Nat) (c : Nat) (w : World) (h : Lim w A xs) (hl : xs.length ≤ c) (hc : c ≤ 9223372036854775807) :
    Calls Tryz.prog 109 #[.slice A xs.length c] w fun e w' => e = .returned (.bool (val xs == 0)) ∧ w = w' := by
  have HZ := Lib.hid (dig_len_zero (n := val xs))
  go_enter Tryz.func109, Tryz.ntmps109
  go_wp2_with (go_at_call 138; refine (trim_c _ _ _ _ h hl hc).mono ?_; rintro e w1 ⟨rfl, rfl⟩)
  go_ret
  exact ⟨by rw [← HZ.out]; rfl, rfl⟩

theorem limb_i (A : Option Addr) (xs : List Nat) (n c : Nat) (i : Int) (k : Nat) (w : World) (h : Lim w A xs) (hn : n = xs.length) (hi : i = k) :
    Calls Tryz.prog 175 #[.slice A n c, .int .i64 i] w fun e w' => e = .returned (.int .u32 (lim xs k : Nat)) ∧ w = w' := by
  subst hi hn
  exact limb_c A xs c k w h

set_option maxHeartbeats 1000000 in
theorem compare_c (A C : Option Addr) (xs ys : List Nat) (c d : Nat) (w : World) (h : Lim w A xs) (k : Lim w C ys) (hl : xs.length ≤ 1152921504606846976) (kl : ys.length ≤ 1152921504606846976) :
    Calls Tryz.prog 158 #[.slice A xs.length c, .slice C ys.length d] w fun e w' => e = .returned (.int .i64 (cmpI (val xs) (val ys))) ∧ w = w' := by
  by_cases hlt : xs.length < ys.length
  all_goals
    go_enter Tryz.func158, Tryz.ntmps158
    go_wp2
    go_step3
    go_wp2
    go_step3
    go_wp2
    go_loop [5] (fun s => ∃ m : Nat, m ≤ 1152921504606846976 ∧ s = .int .i64 (m - 1 : Int) ∧ CmpAt xs ys m) (fun s => (intOf s + 1).toNat)
    case atStart => first | exact ⟨ys.length, kl, rfl, CmpAt.top (by omega) (by omega)⟩ | exact ⟨xs.length, hl, rfl, CmpAt.top (by omega) (by omega)⟩
    case round =>
      obtain ⟨m, hm, rfl, hz⟩ := hrel
      rcases m with _ | m
      · have HE := Lib.hid (cmpI_eq hz.zero)
        go_wp2
        first | rw [Exit.noGoto_ret] | skip
        go_ret
        exact ⟨by rw [HE.out]; rfl, rfl⟩
      · have em : ((m + 1 : Nat) : Int) - 1 = m := by omega
        rw [em]
        rcases Nat.lt_trichotomy (lim xs m) (lim ys m) with hv | hv | hv
        · have HE := Lib.hid (cmpI_lt (hz.less h.1 hv))
          have b1 : ((lim xs m : Int) == (lim ys m : Int)) = false := by simp; omega
          have b2 : decide ((lim xs m : Int) < (lim ys m : Int)) = true := by simp [hv]
          have b3 : decide (lim xs m < lim ys m) = true := by simp [hv]
          go_wp2_with (first | (go_at_call_of 175 (Value.slice A xs.length c); refine (limb_c A xs c m _ h).mono ?_; rintro e w1 ⟨rfl, rfl⟩) | (go_at_call_of 175 (Value.slice C ys.length d); refine (limb_c C ys d m _ k).mono ?_; rintro e w1 ⟨rfl, rfl⟩))
          rw [Exit.noGoto_ret]
          go_ret
          exact ⟨by rw [HE.out]; rfl, rfl⟩
        · have HS := Lib.hid (hz.same hv)
          have b1 : ((lim xs m : Int) == (lim ys m : Int)) = true := by simp [hv]
          go_wp2_with (first | (go_at_call_of 175 (Value.slice A xs.length c); refine (limb_c A xs c m _ h).mono ?_; rintro e w1 ⟨rfl, rfl⟩) | (go_at_call_of 175 (Value.slice C ys.length d); refine (limb_c C ys d m _ k).mono ?_; rintro e w1 ⟨rfl, rfl⟩))
          go_round
          case rel => exact ⟨m, by omega, rfl, HS.out⟩
          case measure => simp [intOf]
        · have HE := Lib.hid (cmpI_gt (hz.swap.less k.1 hv))
          have b1 : ((lim xs m : Int) == (lim ys m : Int)) = false := by simp; omega
          have b2 : decide ((lim xs m : Int) < (lim ys m : Int)) = false := by simp; omega
          have b3 : decide (lim xs m < lim ys m) = false := by simp; omega
          go_wp2_with (first | (go_at_call_of 175 (Value.slice A xs.length c); refine (limb_c A xs c m _ h).mono ?_; rintro e w1 ⟨rfl, rfl⟩) | (go_at_call_of 175 (Value.slice C ys.length d); refine (limb_c C ys d m _ k).mono ?_; rintro e w1 ⟨rfl, rfl⟩))
          rw [Exit.noGoto_ret]
          go_ret
          exact ⟨by rw [HE.out]; rfl, rfl⟩
end Go.Proofs.YtmlfcmmgoiigkaaGreatDoor.Bg
