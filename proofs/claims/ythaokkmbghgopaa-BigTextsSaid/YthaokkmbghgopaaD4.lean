/- The document's BigInts: good, made. -/
import Derived.Deep.RegionHeld3
import Derived.Test.YthaokkmbghgopaaD3
namespace Go.Proofs.Ythaokkmbghgopaa
open Go.RowKit

set_option maxHeartbeats 1000000 in
theorem rmay_c (neg : Bool) (A : Option Addr) (xs : List Nat) (n c : Nat) (w : World) (h : Lim w A xs) (hn : n = xs.length) (hl : xs.length ≤ 1152921504606846976) :
    Calls Try.prog 35 #[.agg #[.bool neg, .slice A n c]] w fun e w' => e = .returned (.bool (mayL neg xs)) ∧ Plus w w' := by
  subst hn
  by_cases h0 : xs.length = 0
  · have HM : Hid (mayL neg xs = !neg) := Lib.hid (by unfold mayL; rw [if_pos h0])
    rw [h0]
    cases neg
    all_goals
      go_enter Try.func35, Try.ntmps35
      go_wp2
      go_ret
      exact ⟨by rw [HM.out]; rfl, (Plus.refl _).alloc _⟩
  · have h0b : ((xs.length : Int) == 0) = false := by simpa using h0
    by_cases h8 : xs.length ≤ 8
    · have h8b : decide ((xs.length : Int) ≤ 8) = true := by simp; omega
      obtain ⟨ad, rfl, hcell⟩ := h.at_ (k := xs.length - 1) (by omega)
      have e1 : ((xs.length : Int) - 1).toNat = xs.length - 1 := by omega
      have e2 : (xs.length : Int) - 1 < (xs.length : Int) := by omega
      have hcw : ∀ o : Obj, (w.alloc o).cell? (ad.add (xs.length - 1)) = some (.int .u32 (lim xs (xs.length - 1) : Nat)) := fun o => by
        rw [World.cell?_alloc_lt _ _ _ (World.block_lt_of_cell? _ _ hcell)]
        exact hcell
      by_cases hv : lim xs (xs.length - 1) = 0
      · have HM : Hid (mayL neg xs = false) := Lib.hid (by unfold mayL; rw [if_neg h0, hv]; simp)
        have hb : (((lim xs (xs.length - 1) : Nat) : Int) != 0) = false := by rw [hv]; rfl
        go_enter Try.func35, Try.ntmps35
        go_wp2
        go_ret
        exact ⟨by rw [HM.out]; rfl, (Plus.refl _).alloc _⟩
      · have HM : Hid (mayL neg xs = true) := Lib.hid (by unfold mayL; rw [if_neg h0]; simp [h8, hv])
        have hb : (((lim xs (xs.length - 1) : Nat) : Int) != 0) = true := by simpa using hv
        go_enter Try.func35, Try.ntmps35
        go_wp2
        go_ret
        exact ⟨by rw [HM.out]; rfl, (Plus.refl _).alloc _⟩
    · have HM : Hid (mayL neg xs = false) := Lib.hid (by unfold mayL; rw [if_neg h0]; simp [h8])
      have h8b : decide ((xs.length : Int) ≤ 8) = false := by simp; omega
      go_enter Try.func35, Try.ntmps35
      go_wp2
      go_ret
      exact ⟨by rw [HM.out]; rfl, (Plus.refl _).alloc _⟩

set_option maxHeartbeats 1000000 in
theorem rgood_c (neg : Bool) (A : Option Addr) (xs : List Nat) (n c : Nat) (w : World) (h : Lim w A xs) (hn : n = xs.length) (hl : xs.length ≤ 1152921504606846976) (hlc : xs.length ≤ c) (hc : c ≤ 9223372036854775807) :
    Calls Try.prog 60 #[.agg #[.bool neg, .slice A n c]] w (RetBig (bigI neg xs) w) := by
  subst hn
  by_cases hm : mayL neg xs = true
  · obtain ⟨e1, e2, _⟩ := may_yes h.1 hm
    have E1 := Lib.hid e1; clear e1
    have E2 := Lib.hid e2; clear e2
    have HM := Lib.hid hm; clear hm
    go_enter Try.func60, Try.ntmps60
    go_wp2_with (go_at_call 35; refine (rmay_c _ _ _ _ _ _ ((h.alloc _).alloc _) rfl hl).mono ?_; rintro e w1 ⟨rfl, ⟨x, rfl⟩⟩; rw [HM.out])
    go_returns
    refine ⟨A, c, ?_, by rw [← E1.out]; exact hlc, hc, by rw [← E1.out]; exact ((h.alloc _).alloc _).grow _, ?_⟩
    · rw [← E1.out, ← E2.out]
    · repeat' (first | exact Plus.refl _ | refine Plus.alloc ?_ _ | refine Plus.plus ?_ _ | refine Plus.drew ?_ | refine Plus.drewN ?_ _)
  · have hm' : mayL neg xs = false := by simpa using hm
    have h0 := may_no hm'
    have HM := Lib.hid hm'; clear hm hm'
    rw [h0]
    go_enter Try.func60, Try.ntmps60
    go_wp2_with (go_at_call 35; refine (rmay_c _ _ _ _ _ _ ((h.alloc _).alloc _) rfl hl).mono ?_; rintro e w1 ⟨rfl, ⟨x, rfl⟩⟩; rw [HM.out])
    go_returns
    refine ⟨none, 0, by rw [show (0 : Int).natAbs = 0 from rfl, dig_zero]; rfl, by rw [show (0 : Int).natAbs = 0 from rfl, dig_zero]; exact Nat.le_refl _, by omega, by rw [show (0 : Int).natAbs = 0 from rfl, dig_zero]; exact Lim.nil, ?_⟩
    repeat' (first | exact Plus.refl _ | refine Plus.alloc ?_ _ | refine Plus.plus ?_ _ | refine Plus.drew ?_ | refine Plus.drewN ?_ _)

set_option maxHeartbeats 1000000 in
theorem rmade_c (neg : Bool) (A : Option Addr) (xs : List Nat) (n c : Nat) (w : World) (h : Lim w A xs) (hn : n = xs.length) (hl : xs.length ≤ c) (hc : c ≤ 9223372036854775807) (hs : xs.length ≤ 2097152) :
    Calls Try.prog 62 #[.bool neg, .slice A n c] w (RetBig (sgn neg (val xs)) w) := by
  subst hn
  have HT := fun o : Obj => rtrim_c A xs xs.length c (w.alloc o) (h.alloc o) rfl hl hc hs
  obtain ⟨m, hm⟩ : ∃ m, val xs = m := ⟨_, rfl⟩
  rw [hm] at HT ⊢
  by_cases h0 : m = 0
  · subst h0
    have e1 : (dig 0).length = 0 := by rw [dig_zero]; rfl
    clear hm h
    cases neg
    all_goals
      go_enter Try.func62, Try.ntmps62
      go_wp2_with fail
      refine (HT _).mono ?_
      rintro e w1 ⟨A3, c3, rfl, r1, r2, r3, ⟨x1, rfl⟩, r5⟩
      rw [e1]
      go_wp2_with fail
      go_returns
      refine ⟨A3, c3, ?_, by rw [sgn_abs, e1]; exact Nat.zero_le _, r2, by rw [sgn_abs, dig_zero]; exact Lim.nil, (by repeat' (first | exact Plus.refl _ | refine Plus.alloc ?_ _ | refine Plus.plus ?_ _ | refine Plus.drew ?_ | refine Plus.drewN ?_ _))⟩
      rw [sgn_abs, e1]
      rfl
  · obtain ⟨L, hlen⟩ : ∃ L, (dig m).length = L := ⟨_, rfl⟩
    have hL0 : 0 < L := by rw [← hlen]; exact Nat.pos_of_ne_zero (dig_ne h0)
    have hL1 : (0 : Int) < (L : Int) := by omega
    clear hm h
    cases neg
    all_goals
      go_enter Try.func62, Try.ntmps62
      go_wp2_with fail
      refine (HT _).mono ?_
      rintro e w1 ⟨A3, c3, rfl, r1, r2, r3, ⟨x1, rfl⟩, r5⟩
      have HL3 := Lib.hid r3
      clear r3 r5 HT
      rw [hlen]
      go_wp2_with fail
      go_returns
      refine ⟨A3, c3, ?_, by rw [sgn_abs]; exact r1, r2, by rw [sgn_abs]; exact HL3.out.res, (by repeat' (first | exact Plus.refl _ | refine Plus.alloc ?_ _ | refine Plus.plus ?_ _ | refine Plus.drew ?_ | refine Plus.drewN ?_ _))⟩
      rw [sgn_abs, sgn_neg h0, hlen]
end Go.Proofs.Ythaokkmbghgopaa
