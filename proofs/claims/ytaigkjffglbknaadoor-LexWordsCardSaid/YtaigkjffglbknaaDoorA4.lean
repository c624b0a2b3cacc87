/- Contracts: a unit of units, how many are alike. -/
import Derived.Test.YtaigkjffglbknaaDoorA3
namespace Go.Proofs.YtaigkjffglbknaaDoor
open Go.RowKit


theorem unitAt_c (A : Option Addr) (xs : List Nat) (n c i : Nat) (w : World) (h : Ar .u16 65536 w A xs n c) (_hi : i ≤ 9223372036854775807) :
    Calls Tryd.prog 49 #[.slice A n c, .int .i64 i] w fun e w' => e = .returned (.int .u16 (uAt xs i)) ∧ w = w' := by
  obtain ⟨hrd, hlen, hcap, hmax, hbd⟩ := h
  subst hlen
  by_cases hlt : i < xs.length
  · obtain ⟨g, o, rfl, hg, hat⟩ := hrd.at_ hlt
    have hcell := hat i hlt
    have hadd := add_addr g o i
    have HAT := Lib.hid hat
    clear hat
    obtain ⟨v, hv⟩ : ∃ v, xs.getD i 0 = v := ⟨_, rfl⟩
    rw [hv] at hcell
    have HV : Hid (uAt xs i = v) := Lib.hid hv
    clear hv
    go_enter Tryd.func49, Tryd.ntmps49
    go_wp2
    go_ret
    exact ⟨by rw [HV.out]; rfl, rfl⟩
  · have hz : uAt xs i = 0 := by unfold uAt; rw [List.getD_eq_getElem?_getD, List.getElem?_eq_none (by omega)]; rfl
    have HZ := Lib.hid hz
    clear hz
    go_enter Tryd.func49, Tryd.ntmps49
    go_wp2
    go_ret
    exact ⟨by rw [HZ.out]; rfl, rfl⟩
/-- No unit of the first k fails. -/
def SpRel (p : Nat → Bool) (xs : List Nat) (s9 : Value) : Prop := ∃ k : Nat, k ≤ xs.length ∧ s9 = .int .i64 k ∧ spanL p xs = k + spanL p (xs.drop k)
theorem span_step {p : Nat → Bool} {xs : List Nat} {k : Nat} (h : spanL p xs = k + spanL p (xs.drop k)) (hk : k < xs.length) (hp : p (xs.getD k 0) = true) : spanL p xs = k + 1 + spanL p (xs.drop (k + 1)) := by
  rw [h, List.drop_eq_getElem_cons hk]
  have e : xs.getD k 0 = xs[k] := by rw [List.getD_eq_getElem?_getD, List.getElem?_eq_getElem hk]; rfl
  rw [e] at hp
  simp only [spanL, hp, if_true]
  omega
theorem span_stop {p : Nat → Bool} {xs : List Nat} {k : Nat} (h : spanL p xs = k + spanL p (xs.drop k)) (hk : k < xs.length) (hp : p (xs.getD k 0) = false) : spanL p xs = k := by
  rw [h, List.drop_eq_getElem_cons hk]
  have e : xs.getD k 0 = xs[k] := by rw [List.getD_eq_getElem?_getD, List.getElem?_eq_getElem hk]; rfl
  rw [e] at hp
  simp [spanL, hp]
theorem span_all {p : Nat → Bool} {xs : List Nat} (h : spanL p xs = xs.length + spanL p (xs.drop xs.length)) : spanL p xs = xs.length := by
  rw [h, List.drop_length]
  rfl
theorem span_le (p : Nat → Bool) (xs : List Nat) : spanL p xs ≤ xs.length := by
  induction xs with
  | nil => exact Nat.le_refl _
  | cons x r ih => unfold spanL; split <;> simp <;> omega

set_option maxRecDepth 100000 in
set_option maxHeartbeats 2000000 in
theorem span_part (A : Option Addr) (xs : List Nat) (n c : Nat) (w : World) (h : Ar .u16 65536 w A xs n c) :
    Calls Tryd.prog 42 #[.slice A n c, (.func (.func 29) #[] #[])] w fun e w' => e = .returned (.int .i64 (spanL isPrt xs)) ∧ w = w' := by
  obtain ⟨hrd, hlen, hcap, hmax, hbd⟩ := h
  subst hlen
  go_enter Tryd.func42, Tryd.ntmps42
  go_wp2
  go_loop [9] (fun s9 => SpRel isPrt xs s9) (fun s9 => ((xs.length : Int) - intOf s9).toNat)
  case atStart => exact ⟨0, by omega, rfl, by simp⟩
  case round =>
    obtain ⟨k, hk, rfl, he⟩ := hrel
    have HE := Lib.hid he
    clear he
    by_cases hlt : k < xs.length
    · obtain ⟨g, o, rfl, hg, hat⟩ := hrd.at_ hlt
      have hcell := hat k hlt
      have hadd := add_addr g o k
      obtain ⟨v, hv⟩ : ∃ v, xs.getD k 0 = v := ⟨_, rfl⟩
      rw [hv] at hcell
      have hvb : v < 65536 := by rw [← hv]; exact hbd _ (getD_mem hlt)
      have HV := Lib.hid hv
      have HAT := Lib.hid hat
      clear hat hv
      obtain ⟨b, hb⟩ : ∃ b, isPrt v = b := ⟨_, rfl⟩
      have HB := Lib.hid hb
      clear hb
      cases b
      · have HS := Lib.hid (span_stop HE.out hlt (by rw [HV.out, HB.out]))
        go_wp2_with (go_at_call 29; (with_reducible refine (isPrt_c v hvb _).mono ?_); rintro e w1 ⟨rfl, rfl⟩; rw [HB.out])
        go_ret
        exact ⟨by rw [HS.out]; rfl, rfl⟩
      · have HS := Lib.hid (span_step HE.out hlt (by rw [HV.out, HB.out]))
        go_wp2_with (go_at_call 29; (with_reducible refine (isPrt_c v hvb _).mono ?_); rintro e w1 ⟨rfl, rfl⟩; rw [HB.out])
        go_round
        case rel => exact ⟨k + 1, hlt, by rw [show ((k + 1 : Nat) : Int) = (k : Int) + 1 by omega], HS.out⟩
        case measure => simp [intOf]; omega
    · obtain rfl : k = xs.length := by omega
      have HS := Lib.hid (span_all HE.out)
      go_wp2
      go_ret
      exact ⟨by rw [HS.out]; rfl, rfl⟩

set_option maxRecDepth 100000 in
set_option maxHeartbeats 2000000 in
theorem span_dig (A : Option Addr) (xs : List Nat) (n c : Nat) (w : World) (h : Ar .u16 65536 w A xs n c) :
    Calls Tryd.prog 42 #[.slice A n c, (.func (.func 28) #[] #[])] w fun e w' => e = .returned (.int .i64 (spanL isDig xs)) ∧ w = w' := by
  obtain ⟨hrd, hlen, hcap, hmax, hbd⟩ := h
  subst hlen
  go_enter Tryd.func42, Tryd.ntmps42
  go_wp2
  go_loop [9] (fun s9 => SpRel isDig xs s9) (fun s9 => ((xs.length : Int) - intOf s9).toNat)
  case atStart => exact ⟨0, by omega, rfl, by simp⟩
  case round =>
    obtain ⟨k, hk, rfl, he⟩ := hrel
    have HE := Lib.hid he
    clear he
    by_cases hlt : k < xs.length
    · obtain ⟨g, o, rfl, hg, hat⟩ := hrd.at_ hlt
      have hcell := hat k hlt
      have hadd := add_addr g o k
      obtain ⟨v, hv⟩ : ∃ v, xs.getD k 0 = v := ⟨_, rfl⟩
      rw [hv] at hcell
      have hvb : v < 65536 := by rw [← hv]; exact hbd _ (getD_mem hlt)
      have HV := Lib.hid hv
      have HAT := Lib.hid hat
      clear hat hv
      obtain ⟨b, hb⟩ : ∃ b, isDig v = b := ⟨_, rfl⟩
      have HB := Lib.hid hb
      clear hb
      cases b
      · have HS := Lib.hid (span_stop HE.out hlt (by rw [HV.out, HB.out]))
        go_wp2_with (go_at_call 28; (with_reducible refine (isDig_c v hvb _).mono ?_); rintro e w1 ⟨rfl, rfl⟩; rw [HB.out])
        go_ret
        exact ⟨by rw [HS.out]; rfl, rfl⟩
      · have HS := Lib.hid (span_step HE.out hlt (by rw [HV.out, HB.out]))
        go_wp2_with (go_at_call 28; (with_reducible refine (isDig_c v hvb _).mono ?_); rintro e w1 ⟨rfl, rfl⟩; rw [HB.out])
        go_round
        case rel => exact ⟨k + 1, hlt, by rw [show ((k + 1 : Nat) : Int) = (k : Int) + 1 by omega], HS.out⟩
        case measure => simp [intOf]; omega
    · obtain rfl : k = xs.length := by omega
      have HS := Lib.hid (span_all HE.out)
      go_wp2
      go_ret
      exact ⟨by rw [HS.out]; rfl, rfl⟩

set_option maxRecDepth 100000 in
set_option maxHeartbeats 2000000 in
theorem span_line (A : Option Addr) (xs : List Nat) (n c : Nat) (w : World) (h : Ar .u16 65536 w A xs n c) :
    Calls Tryd.prog 42 #[.slice A n c, (.func (.func 43) #[] #[])] w fun e w' => e = .returned (.int .i64 (spanL inLin xs)) ∧ w = w' := by
  obtain ⟨hrd, hlen, hcap, hmax, hbd⟩ := h
  subst hlen
  go_enter Tryd.func42, Tryd.ntmps42
  go_wp2
  go_loop [9] (fun s9 => SpRel inLin xs s9) (fun s9 => ((xs.length : Int) - intOf s9).toNat)
  case atStart => exact ⟨0, by omega, rfl, by simp⟩
  case round =>
    obtain ⟨k, hk, rfl, he⟩ := hrel
    have HE := Lib.hid he
    clear he
    by_cases hlt : k < xs.length
    · obtain ⟨g, o, rfl, hg, hat⟩ := hrd.at_ hlt
      have hcell := hat k hlt
      have hadd := add_addr g o k
      obtain ⟨v, hv⟩ : ∃ v, xs.getD k 0 = v := ⟨_, rfl⟩
      rw [hv] at hcell
      have hvb : v < 65536 := by rw [← hv]; exact hbd _ (getD_mem hlt)
      have HV := Lib.hid hv
      have HAT := Lib.hid hat
      clear hat hv
      obtain ⟨b, hb⟩ : ∃ b, inLin v = b := ⟨_, rfl⟩
      have HB := Lib.hid hb
      clear hb
      cases b
      · have HS := Lib.hid (span_stop HE.out hlt (by rw [HV.out, HB.out]))
        go_wp2_with (go_at_call 43; (with_reducible refine (inLin_c v hvb _).mono ?_); rintro e w1 ⟨rfl, rfl⟩; rw [HB.out])
        go_ret
        exact ⟨by rw [HS.out]; rfl, rfl⟩
      · have HS := Lib.hid (span_step HE.out hlt (by rw [HV.out, HB.out]))
        go_wp2_with (go_at_call 43; (with_reducible refine (inLin_c v hvb _).mono ?_); rintro e w1 ⟨rfl, rfl⟩; rw [HB.out])
        go_round
        case rel => exact ⟨k + 1, hlt, by rw [show ((k + 1 : Nat) : Int) = (k : Int) + 1 by omega], HS.out⟩
        case measure => simp [intOf]; omega
    · obtain rfl : k = xs.length := by omega
      have HS := Lib.hid (span_all HE.out)
      go_wp2
      go_ret
      exact ⟨by rw [HS.out]; rfl, rfl⟩
end Go.Proofs.YtaigkjffglbknaaDoor
