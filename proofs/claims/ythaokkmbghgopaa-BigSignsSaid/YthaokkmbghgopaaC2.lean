/- Contracts of big's smallest functions. -/
import Derived.Test.YthaokkmbghgopaaC1
namespace Go.Proofs.Ythaokkmbghgopaa
open Go.RowKit


/-- The limbs from k on are zeros. -/
def Zer (xs : List Nat) (k : Nat) : Prop := ∀ i, k ≤ i → i < xs.length → xs[i]? = some 0
theorem Zer.all (xs : List Nat) : Zer xs xs.length := fun i h1 h2 => absurd h2 (by omega)
theorem Zer.down {xs : List Nat} {k : Nat} (h : Zer xs (k + 1)) (hz : lim xs k = 0) : Zer xs k := fun i h1 h2 => by
  by_cases e : i = k
  · subst e
    rw [List.getElem?_eq_getElem h2, ← lim_in h2, hz]
  · exact h i (by omega) h2
theorem trim_k {xs : List Nat} {k : Nat} (ho : okL xs) (hk : k ≤ xs.length) (h : Zer xs k) (ht : k = 0 ∨ lim xs (k - 1) ≠ 0) : xs.take k = dig (val xs) := dig_take ho h ht hk
theorem cast_ne {a : Nat} (h : a ≠ 0) : ((a : Int) == 0) = false := by simpa using h
theorem cast_eq {a : Nat} (h : a = 0) : ((a : Int) == 0) = true := by subst h; rfl

set_option maxHeartbeats 1000000 in
theorem trim_c (A : Option Addr) (xs : List Nat) (c : Nat) (w : World) (h : Lim w A xs) (hl : xs.length ≤ c) (hc : c ≤ 9223372036854775807) :
    Calls Try.prog 84 #[.slice A xs.length c] w fun e w' => e = .returned (.slice A (dig (val xs)).length c) ∧ w = w' := by
  go_enter Try.func84, Try.ntmps84
  go_wp2
  go_loop [3] (fun s => ∃ k : Nat, k ≤ xs.length ∧ s = .int .i64 k ∧ Zer xs k) (fun s => (intOf s).toNat)
  case atStart => exact ⟨xs.length, Nat.le_refl _, rfl, Zer.all xs⟩
  case round =>
    obtain ⟨k, hk, rfl, hz⟩ := hrel
    by_cases h0 : 0 < k
    · obtain ⟨ad, rfl, hcell⟩ := h.at_ (k := k - 1) (by omega)
      have e1 : ((k : Int) - 1).toNat = k - 1 := by omega
      by_cases hv : lim xs (k - 1) = 0
      · have hb := cast_eq hv
        go_wp2
        go_round
        case rel => exact ⟨k - 1, by omega, by rw [show ((k - 1 : Nat) : Int) = (k : Int) - 1 by omega], Zer.down (by rw [show k - 1 + 1 = k by omega]; exact hz) hv⟩
        case measure => simp [intOf]; omega
      · have hb := cast_ne hv
        have HK := Lib.hid (trim_k h.1 hk hz (.inr hv))
        have HL : Hid ((dig (val xs)).length = k) := by rw [← HK.out, List.length_take, Nat.min_eq_left hk]; exact rfl
        go_wp2
        go_ret
        exact ⟨by rw [HL.out]; rfl, rfl⟩
    · obtain rfl : k = 0 := by omega
      have HK := Lib.hid (trim_k h.1 hk hz (.inl rfl))
      have HL : Hid ((dig (val xs)).length = 0) := by rw [← HK.out, List.length_take, Nat.min_eq_left hk]; exact rfl
      go_wp2
      go_ret
      exact ⟨by rw [HL.out]; rfl, rfl⟩
end Go.Proofs.Ythaokkmbghgopaa
