/- Words for the walks of the statements. -/
import Derived.Test.YthaokkmbghgopaaC27
namespace Go.Proofs.Ythaokkmbghgopaa
open Go.RowKit


/-- An argument of any length. -/
structure Raw (w : World) (A : Option Addr) (xs : List Nat) (n c : Nat) : Prop where
  lim : Lim w A xs
  len : n = xs.length
  cap : xs.length ≤ c
  max : c ≤ 9223372036854775807
theorem Raw.arg {w : World} {A : Option Addr} {xs : List Nat} {n c : Nat} (h : Raw w A xs n c) (hf : n ≤ 40) : Arg w A xs n c := ⟨h.lim, h.len, by have := h.len; omega, h.cap, h.max⟩
theorem few_c {an : Bool} {A : Option Addr} {n c : Nat} {v : Bool} (hv : Hid (decide (n ≤ 40) = v)) (w : World) :
    Calls Try.prog 15 #[.agg #[.bool an, .slice A n c]] w fun e w' => e = .returned (.bool v) ∧ Plus w w' := by
  go_enter Try.func15, Try.ntmps15
  go_wp2
  go_ret
  refine ⟨?_, by repeat' (first | exact Plus.refl _ | refine Plus.alloc ?_ _ | refine Plus.plus ?_ _ | refine Plus.drew ?_ | refine Plus.drewN ?_ _)⟩
  rw [← hv.out]
  by_cases h : n ≤ 40 <;> simp [h] <;> omega
theorem okN (s : Int) : ∃ (r : Int) (ok pb : Bool) (us : List Nat), Nm r pb us ∧ ok = decide (s.natAbs < B ^ 8) ∧ r = if s.natAbs < B ^ 8 then s else 0 := by
  by_cases h : s.natAbs < B ^ 8
  · exact ⟨s, _, _, _, Nm.mk' h, rfl, by rw [if_pos h]⟩
  · exact ⟨0, _, _, _, Nm.mk' (by decide), rfl, by rw [if_neg h]⟩
theorem ok_yes {s r : Int} {ok : Bool} (h1 : ok = decide (s.natAbs < B ^ 8)) (h2 : r = if s.natAbs < B ^ 8 then s else 0) (h : ok = true) : r = s ∧ s.natAbs < B ^ 8 := by
  rw [h] at h1
  have := of_decide_eq_true h1.symm
  rw [if_pos this] at h2
  exact ⟨h2, this⟩
end Go.Proofs.Ythaokkmbghgopaa
