/- Contracts: below, May, valid. -/
import Derived.Test.YthaokkmbghgopaaC10
namespace Go.Proofs.Ythaokkmbghgopaa
open Go.RowKit


set_option maxHeartbeats 1000000 in
theorem may_c (neg : Bool) (A : Option Addr) (xs : List Nat) (n c : Nat) (w : World) (h : Lim w A xs) (hn : n = xs.length) (hl : xs.length ≤ 1152921504606846976) :
    Calls Try.prog 34 #[.agg #[.bool neg, .slice A n c]] w fun e w' => e = .returned (.bool (mayL neg xs)) ∧ Plus w w' := by
  subst hn
  by_cases h0 : xs.length = 0
  · have HM : Hid (mayL neg xs = !neg) := Lib.hid (by unfold mayL; rw [if_pos h0])
    rw [h0]
    go_enter Try.func34, Try.ntmps34
    go_wp2
    go_ret
    exact ⟨by rw [HM.out]; rfl, (Plus.refl _).alloc _⟩
  · have h0b : ((xs.length : Int) == 0) = false := by simpa using h0
    by_cases h8 : xs.length ≤ 8
    · have h8b : decide ((xs.length : Int) ≤ 8) = true := by simp; omega
      obtain ⟨ad, rfl, hcell⟩ := h.at_ (k := xs.length - 1) (by omega)
      have e1 : ((xs.length : Int) - 1).toNat = xs.length - 1 := by omega
      have e2 : (xs.length : Int) - 1 < (xs.length : Int) := by omega
      have hcw : ∀ o : Obj, (w.alloc o).cell? (ad.add (xs.length - 1)) = some (.int .u32 (lim xs (xs.length - 1) : Nat)) := fun o => by
        rw [World.cell?_alloc_lt _ _ _ (World.block_lt_of_cell? _ _ hcell)]
        exact hcell
      by_cases hv : lim xs (xs.length - 1) = 0
      · have HM : Hid (mayL neg xs = false) := Lib.hid (by unfold mayL; rw [if_neg h0, hv]; simp)
        have hb : (((lim xs (xs.length - 1) : Nat) : Int) != 0) = false := by rw [hv]; rfl
        go_enter Try.func34, Try.ntmps34
        go_wp2
        go_ret
        exact ⟨by rw [HM.out]; rfl, (Plus.refl _).alloc _⟩
      · have HM : Hid (mayL neg xs = true) := Lib.hid (by unfold mayL; rw [if_neg h0]; simp [h8, hv])
        have hb : (((lim xs (xs.length - 1) : Nat) : Int) != 0) = true := by simpa using hv
        go_enter Try.func34, Try.ntmps34
        go_wp2
        go_ret
        exact ⟨by rw [HM.out]; rfl, (Plus.refl _).alloc _⟩
    · have HM : Hid (mayL neg xs = false) := Lib.hid (by unfold mayL; rw [if_neg h0]; simp [h8])
      have h8b : decide ((xs.length : Int) ≤ 8) = false := by simp; omega
      go_enter Try.func34, Try.ntmps34
      go_wp2
      go_ret
      exact ⟨by rw [HM.out]; rfl, (Plus.refl _).alloc _⟩

set_option maxHeartbeats 1000000 in
theorem valid_c (neg : Bool) (A : Option Addr) (xs : List Nat) (n c : Nat) (w : World) (h : Lim w A xs) (hn : n = xs.length) (hl : xs.length ≤ 1152921504606846976) (hlc : xs.length ≤ c) (hc : c ≤ 9223372036854775807) :
    Calls Try.prog 51 #[.agg #[.bool neg, .slice A n c]] w (RetBig (bigI neg xs) w) := by
  subst hn
  by_cases hm : mayL neg xs = true
  · obtain ⟨e1, e2, _⟩ := may_yes h.1 hm
    have E1 := Lib.hid e1; clear e1
    have E2 := Lib.hid e2; clear e2
    have HM := Lib.hid hm; clear hm
    go_enter Try.func51, Try.ntmps51
    go_wp2_with (go_at_call 34; refine (may_c _ _ _ _ _ _ ((h.alloc _).alloc _) rfl hl).mono ?_; rintro e w1 ⟨rfl, ⟨x, rfl⟩⟩; rw [HM.out])
    go_returns
    refine ⟨A, c, ?_, by rw [← E1.out]; exact hlc, hc, by rw [← E1.out]; exact ((h.alloc _).alloc _).grow _, ?_⟩
    · rw [← E1.out, ← E2.out]
    · repeat' (first | exact Plus.refl _ | refine Plus.alloc ?_ _ | refine Plus.plus ?_ _ | refine Plus.drew ?_ | refine Plus.drewN ?_ _)
  · have hm' : mayL neg xs = false := by simpa using hm
    have h0 := may_no hm'
    have HM := Lib.hid hm'; clear hm hm'
    rw [h0]
    go_enter Try.func51, Try.ntmps51
    go_wp2_with (go_at_call 34; refine (may_c _ _ _ _ _ _ ((h.alloc _).alloc _) rfl hl).mono ?_; rintro e w1 ⟨rfl, ⟨x, rfl⟩⟩; rw [HM.out])
    go_returns
    refine ⟨none, 0, by rw [show (0 : Int).natAbs = 0 from rfl, dig_zero]; rfl, by rw [show (0 : Int).natAbs = 0 from rfl, dig_zero]; exact Nat.le_refl _, by omega, by rw [show (0 : Int).natAbs = 0 from rfl, dig_zero]; exact Lim.nil, ?_⟩
    repeat' (first | exact Plus.refl _ | refine Plus.alloc ?_ _ | refine Plus.plus ?_ _ | refine Plus.drew ?_ | refine Plus.drewN ?_ _)

set_option maxHeartbeats 1000000 in
theorem below_c (bits : Nat) (neg : Bool) (A : Option Addr) (xs : List Nat) (n c : Nat) (w : World) (h : Lim w A xs) (hn : n = xs.length) (hb : bits ≤ 1024) (hle : val xs ≤ 2 ^ bits) :
    Calls Try.prog 70 #[.int .i64 bits, .bool neg, .slice A n c] w (RetBig (sgn neg (2 ^ bits - val xs)) w) := by
  subst hn
  have HLE := Lib.hid hle; clear hle
  go_enter Try.func70, Try.ntmps70
  go_wp2_with fail
  refine (power_c bits hb _).mono ?_
  rintro e w1 ⟨g, os, rfl, hg, hO, hv, hlen, hB⟩
  obtain ⟨x1, rfl⟩ := Plus.of_below hB
  have HO := Lib.hid hO; clear hO
  have HV := Lib.hid hv; clear hv
  have HG := Lib.hid hg; clear hg
  have HLN := Lib.hid hlen; clear hlen
  have HB := Lib.hid hB; clear hB
  go_wp2_with fail
  refine (subtract_i g A os xs _ _ _ _ HO.out ((h.alloc _).grow _) rfl (fun h0 ad e => ?_) (by rw [HV.out]; exact HLE.out) (by have := HLN.out; omega)).mono ?_
  · obtain ⟨ad', e', hlt, _⟩ := h.2 h0
    rw [e] at e'
    injection e' with e'
    subst e'
    have := HG.out
    rw [World.size_alloc] at this
    omega
  rintro e w2 ⟨os2, rfl, hO2, hv2, hl2, hg2⟩
  obtain ⟨x2, rfl⟩ := Plus.of_below (HB.out.grown hg2 HB.out.size (fun k e => by injection e with e; subst e; exact HG.out))
  have HV2 : Hid (val os2 = 2 ^ bits - val xs) := Lib.hid (by have := HV.out; omega)
  have HO2 := Lib.hid hO2
  have HL2 := Lib.hid hl2
  clear hv2 hl2 hg2 hO2
  go_wp2_with fail
  refine (made_c neg _ os2 _ _ _ HO2.out.toLim HL2.out.symm (by rw [HL2.out]; exact Nat.le_refl _) (by have := HLN.out; omega)).mono ?_
  rintro e w3 ⟨A3, c3, rfl, q1, q2, q3, ⟨x3, rfl⟩⟩
  rw [HV2.out] at q1 q3 ⊢
  have Q1 := Lib.hid q1; clear q1
  have Q3 := Lib.hid q3; clear q3
  go_wp2_with fail
  go_returns
  refine ⟨A3, c3, rfl, Q1.out, q2, Q3.out.res2, ?_⟩
  repeat' (first | exact Plus.refl _ | refine Plus.alloc ?_ _ | refine Plus.plus ?_ _ | refine Plus.drew ?_ | refine Plus.drewN ?_ _)
end Go.Proofs.Ythaokkmbghgopaa
