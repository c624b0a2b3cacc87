/- The document's powers of two, quotients and rests of limbs. -/
import Derived.Test.YthaokkmbghgopaaD2
namespace Go.Proofs.Ythaokkmbghgopaa
open Go.RowKit


set_option maxHeartbeats 1000000 in
theorem rpower_c (n : Nat) (z : Int) (hz : z = n) (hn : n ≤ 1024) (w : World) : Calls Try.prog 72 #[.int .i64 z] w (NewL (n / 32 + 1) (2 ^ n) w) := by
  subst hz
  have hmk := run_make_row' (P := Try.prog) 22 53 (.int .u32 0) 4 Try.underlying22 info53 rfl .i64 .i64 (n / 32 + 1) (by omega) (by omega)
  rw [zeros_cells, show ((n / 32 + 1 : Nat) : Int) = (n : Int) / 32 + 1 by omega] at hmk
  have ei : ((n : Int) / 32).toNat = n / 32 := by omega
  go_enter Try.func72, Try.ntmps72
  go_wp2
  go_ret
  have ep : (2 : Int) ^ (n % 32) % 4294967296 = ((2 ^ (n % 32) : Nat) : Int) := by
    have h2 : 2 ^ (n % 32) < 4294967296 := Nat.pow_lt_pow_right (by decide : 1 < 2) (Nat.mod_lt n (by decide : 0 < 32))
    have e : (2 : Int) ^ (n % 32) = ((2 ^ (n % 32) : Nat) : Int) := by rw [Int.natCast_pow]; rfl
    rw [e]
    exact Int.emod_eq_of_lt (Int.natCast_nonneg _) (Int.ofNat_lt.2 h2)
  have hz : Own (w.alloc (.cells (Array.replicate (n / 32 + 1) (.int .u32 0)) 53)) w.heap.size (List.replicate (n / 32 + 1) 0) := Own.zeros w _ 53 _ rfl
  have hs := hz.set (k := n / 32) (v := 2 ^ (n % 32)) (by simp) (by rw [B_two]; exact Nat.pow_lt_pow_right (by decide) (Nat.mod_lt _ (by decide)))
  rw [World.setCell_alloc_at _ _ _ _ _ rfl, ← ep] at hs
  exact ⟨w.heap.size, _, by simp, Nat.le_refl _, hs, val_power n, by simp, (Below.refl _ _).alloc (Nat.le_refl _) _⟩

theorem Lim.lit1 (w : World) (g : Nat) (hg : g = w.heap.size) : Lim (w.alloc (.cells #[.int .u32 1] 53)) (some ⟨g, 0, none⟩) [1] := by
  subst hg
  refine ⟨okL.cons (by decide) okL_nil, fun _ => ⟨_, rfl, by simp, fun j hj => ?_⟩⟩
  have : j = 0 := by simp at hj; omega
  subst this
  rw [zero_add_addr, World.cell?_alloc_at _ _ _ _ rfl]
  rfl
def RdRel (xs ys : List Nat) (g : Nat) (w : World) (s7 s8 : Value) (wr : World) : Prop :=
  ∃ (j Q R : Nat) (os : List Nat) (A : Option Addr) (c : Nat), j ≤ xs.length * 32 ∧ s8 = .int .i64 (j - 1 : Int) ∧ DivAt (val xs) (val ys) j Q R ∧ Own wr g os ∧ os.length = xs.length ∧ val os = 2 ^ j * Q ∧ s7 = .slice A (dig R).length c ∧ Lim wr A (dig R) ∧ (∀ ad, A = some ad → g < ad.block) ∧ (dig R).length ≤ c ∧ c ≤ 9223372036854775807 ∧ Below w.heap.size w wr
/-- The quotient's limbs, the rest's. -/
def RetQR (Q R : Nat) (w : World) (e : Ending) (w' : World) : Prop :=
  ∃ (A C : Option Addr) (c d : Nat), e = .returned (.tuple #[.slice A (dig Q).length c, .slice C (dig R).length d]) ∧ (dig Q).length ≤ c ∧ c ≤ 9223372036854775807 ∧ (dig R).length ≤ d ∧ d ≤ 9223372036854775807 ∧ Lim w' A (dig Q) ∧ Lim w' C (dig R) ∧ Plus w w'

set_option maxRecDepth 100000 in
set_option maxHeartbeats 8000000 in
theorem rdivide_c (A C : Option Addr) (xs ys : List Nat) (n c m d : Nat) (w : World) (h : Lim w A xs) (k : Lim w C ys) (hn : n = xs.length) (hm : m = ys.length) (hl : xs.length ≤ 1024) (kl : ys.length ≤ 1024) (hy : 0 < val ys) :
    Calls Try.prog 66 #[.slice A n c, .slice C m d] w (RetQR (val xs / val ys) (val xs % val ys) w) := by
  subst hn hm
  have hmk := run_make_row' (P := Try.prog) 22 53 (.int .u32 0) 4 Try.underlying22 info53 rfl .i64 .i64 xs.length (by omega) (by omega)
  rw [zeros_cells] at hmk
  have hYB : val ys < B ^ ys.length := val_lt k.1
  go_enter Try.func66, Try.ntmps66
  go_wp2
  clear hmk
  go_loopw [7, 8] (RdRel xs ys w.heap.size w) (fun _ s8 _ => (intOf s8 + 1).toNat)
  case atStart =>
    refine ⟨xs.length * 32, 0, 0, _, none, 0, Nat.le_refl _, by rw [show ((xs.length * 32 : Nat) : Int) = 32 * (xs.length : Int) by omega], DivAt.top ?_ hy, Own.zeros w _ 53 _ rfl, by simp, by rw [val_zeros, Nat.mul_zero], by rw [dig_zero]; rfl, by rw [dig_zero]; exact Lim.nil, (fun ad e => by cases e), by rw [dig_zero]; exact Nat.le_refl _, by decide, (Below.refl _ _).alloc (Nat.le_refl _) _⟩
    rw [Nat.mul_comm, ← pow_bits]
    exact val_lt h.1
  case round =>
    obtain ⟨j, Q, R, os, A1, c1, hj, rfl, hD, hO, hol, hoq, rfl, hL1, hf1, hc1, hc2, hB⟩ := hrel
    have hRl : (dig R).length ≤ ys.length := dig_len_le (Nat.lt_trans hD.lt hYB)
    rcases j with _ | i
    · obtain ⟨hq, hr⟩ := hD.done
      have hov : val os = val xs / val ys := by rw [hoq, hq]; simp
      have HT := rtrim_c (some ⟨w.heap.size, 0, none⟩) os xs.length xs.length wr hO.toLim hol.symm (by omega) (by omega) (by omega)
      rw [hov] at HT
      have HL := Lib.hid hL1
      have HB := Lib.hid hB
      have HRR := Lib.hid hr
      clear hD hO hol hoq hL1 hB hq hr hov
      go_wp2_with fail
      refine HT.mono ?_
      rintro e w1 ⟨A3, c3, rfl, r1, r2, r3, r4, r5⟩
      have HP := Lib.hid r4
      have HR3 := Lib.hid r3
      clear r3 r4 r5
      go_wp2_with fail
      go_ret2
      refine ⟨A3, A1, c3, c1, by rw [← HRR.out]; rfl, r1, r2, by rw [← HRR.out]; exact hc1, hc2, HR3.out, by rw [← HRR.out]; exact HL.out.below HP.out.below, (Plus.of_below HB.out).trans HP.out⟩
    · rw [show ((i + 1 : Nat) : Int) - 1 = i by omega]
      have hix : i / 32 < xs.length := by omega
      obtain ⟨ad, rfl, hxc⟩ := (h.below hB).at_ hix
      have ei : ((i : Int) / 32).toNat = i / 32 := by omega
      have ei1 : (i : Int) / 32 < (xs.length : Int) := by omega
      have HBIT := Lib.hid (bit_of h.1 i)
      have hR2 : R + R < B ^ (ys.length + 1) := by
        have h1 := hD.lt
        have h2 : B ^ ys.length * 2 ≤ B ^ (ys.length + 1) := by rw [Nat.pow_succ]; exact Nat.mul_le_mul_left _ (by decide)
        omega
      have HP1 := rplus_c A1 A1 (dig R) (dig R) (dig R).length c1 (dig R).length c1 wr hL1 hL1 rfl rfl (by omega) (by omega)
      rw [val_dig] at HP1
      have hdl : (dig (R + R)).length ≤ ys.length + 1 := dig_len_le hR2
      have HD := Lib.hid hD
      have HO := Lib.hid hO
      have HOL := Lib.hid hol
      have HOQ := Lib.hid hoq
      have HB := Lib.hid hB
      have HX := Lib.hid (h.below hB)
      have HY := Lib.hid (k.below hB)
      have HA1 := Lib.hid hf1
      clear hD hO hol hoq hL1 hR2 hxc
      go_wp2_with fail
      refine HP1.mono ?_
      rintro e w1 ⟨A2, c2, rfl, q1, q2, q3, q4, q5⟩
      clear HP1
      have HX1 := Lib.hid (HX.out.below q4.below)
      have HY1 := Lib.hid (HY.out.below q4.below)
      have HO1 := Lib.hid (HO.out.below q4.below HO.out.lt)
      have HB1 := Lib.hid (HB.out.trans (q4.below.mono HB.out.size))
      have HL2 := Lib.hid q3
      have HA2 : Hid (∀ ad, A2 = some ad → w.heap.size < ad.block) := Lib.hid fun ad e => Nat.lt_of_lt_of_le HO.out.lt (q5 ad e)
      obtain ⟨ad', eA, hxc⟩ := HX1.out.at_ hix
      obtain rfl := Option.some.inj eA
      have hbit := bit_i (b := i % 32) (lim_lt h.1 (i / 32))
      obtain ⟨x0, x1⟩ := lim_i h.1 (i / 32)
      obtain ⟨tt, ett⟩ : ∃ tt, lim xs (i / 32) / 2 ^ (i % 32) % 2 = tt := ⟨_, rfl⟩
      have htt : tt = 0 ∨ tt = 1 := by
        rw [← ett]
        have := Nat.mod_lt (lim xs (i / 32) / 2 ^ (i % 32)) (by decide : 0 < 2)
        omega
      have HTT : Hid (val xs / 2 ^ i % 2 = tt) := Lib.hid (by rw [HBIT.out, ett])
      rw [ett] at hbit
      clear q3 q4 q5 HX HY HO HB ett HBIT
      rcases htt with rfl | rfl
      · rw [show ((0 : Nat) : Int) = 0 from rfl] at hbit
        have HL1 := HL2
        have HA1' := HA2
        clear HA1
        have HA1 := HA1'
        clear HL2 HA2 HA1'
        have HCM := rcmp_c A2 C (dig (R + R)) ys (dig (R + R)).length c2 ys.length d w1 HL1.out HY1.out rfl rfl (by omega) (by omega)
        rw [val_dig] at HCM
        rcases Nat.lt_or_ge (R + R) (val ys) with hlt | hge
        · rw [cmpI_lt hlt] at HCM
          have HLT := Lib.hid hlt
          clear hlt
          go_wp2_with fail
          refine HCM.mono ?_
          rintro e w9 ⟨rfl, rfl⟩
          clear HCM
          go_wp2_with fail
          go_roundw
          case rel =>
            have hV : 2 * R + val xs / 2 ^ i % 2 = R + R := by rw [HTT.out]; omega
            have hlow := HD.out.low (by rw [hV]; exact HLT.out)
            rw [hV] at hlow
            refine ⟨i, _, _, os, A2, c2, by omega, rfl, hlow, HO1.out, HOL.out, ?_, rfl, HL1.out, HA1.out, q1, q2, HB1.out⟩
            rw [HOQ.out, Nat.pow_succ, Nat.mul_assoc]
          case measure => simp [intOf]
        · obtain ⟨z, hz, hz0⟩ := cmpI_ge hge
          rw [hz] at HCM
          have HGE := Lib.hid hge
          have hzd : decide (z < 0) = false := by simpa using hz0
          have HMI := rminus_c A2 C (dig (R + R)) ys (dig (R + R)).length c2 ys.length d w1 HL1.out HY1.out rfl rfl (by omega) (by rw [val_dig]; exact hge)
          rw [val_dig] at HMI
          clear hge hz
          go_wp2_with fail
          refine HCM.mono ?_
          rintro e w9 ⟨rfl, rfl⟩
          clear HCM
          go_wp2_with fail
          refine HMI.mono ?_
          rintro e w8 ⟨A8, c8, rfl, u1, u2, u3, u4, u5⟩
          clear HMI
          have HO8 := HO1.out.below u4.below HO1.out.lt
          have HB8 := Lib.hid (HB1.out.trans (u4.below.mono HB1.out.size))
          have hoi : i / 32 < os.length := by rw [HOL.out]; exact hix
          have hcell := HO8.cell hoi
          have hfro := HO8.frozen (i / 32)
          obtain ⟨hs1, hs2⟩ := set_bit HO8.1 hoi HOQ.out
          obtain ⟨b0, b1, b2⟩ := orbit_i (b := i % 32) (lim_lt HO8.1 (i / 32)) (Nat.mod_lt _ (by decide))
          have HO3 := Lib.hid HO8
          have HS1 := Lib.hid hs1
          have HS2 := Lib.hid hs2
          have HL8 := Lib.hid u3
          have HA8 : Hid (∀ ad, A8 = some ad → w.heap.size < ad.block) := Lib.hid fun ad e => Nat.lt_of_lt_of_le HO1.out.lt (u5 ad e)
          clear u3 u4 u5 HO8 hs1 hs2 hoi
          go_wp2_with fail
          go_roundw
          case rel =>
            have hV : 2 * R + val xs / 2 ^ i % 2 = R + R := by rw [HTT.out]; omega
            have hhi := HD.out.high (by rw [hV]; exact HGE.out)
            rw [hV] at hhi
            exact ⟨i, _, _, _, A8, c8, by omega, rfl, hhi, HO3.out.set (by rw [HOL.out]; exact hix) HS2.out, by rw [List.length_set]; exact HOL.out, HS1.out, rfl, HL8.out.setCell _ (fun ad e => by have := HA8.out ad e; simp; omega), HA8.out, u1, u2, HB8.out.setCell (Nat.le_refl _) _⟩
          case measure => simp [intOf]
      · rw [show ((1 : Nat) : Int) = 1 from rfl] at hbit
        have HP2 := rplus_c A2 (some ⟨w1.heap.size, 0, none⟩) (dig (R + R)) [1] (dig (R + R)).length c2 1 1 (w1.alloc (.cells #[.int .u32 1] 53)) (HL2.out.alloc _) (Lim.lit1 w1 _ rfl) rfl rfl (by omega) (by decide)
        rw [val_dig, show val [1] = 1 by simp [val]] at HP2
        have hR3 : R + R + 1 < B ^ (ys.length + 1) := by
          have h1 := HD.out.lt
          have h2 : B ^ ys.length * 2 ≤ B ^ (ys.length + 1) := by rw [Nat.pow_succ]; exact Nat.mul_le_mul_left _ (by decide)
          omega
        have hdl3 : (dig (R + R + 1)).length ≤ ys.length + 1 := dig_len_le hR3
        clear hR3 HA1
        go_wp2_with fail
        refine HP2.mono ?_
        rintro e w2 ⟨A3, c3, rfl, p1, p2, p3, p4, p5⟩
        clear HP2
        have hpl : Plus w1 w2 := (Plus.alloc (Plus.refl _) _).trans p4
        have HX3 := Lib.hid (HX1.out.below hpl.below)
        have HY3 := Lib.hid (HY1.out.below hpl.below)
        have HO3' := Lib.hid (HO1.out.below hpl.below HO1.out.lt)
        have HB3 := Lib.hid (HB1.out.trans (hpl.below.mono HB1.out.size))
        have HL3 := Lib.hid p3
        have HA3 : Hid (∀ ad, A3 = some ad → w.heap.size < ad.block) := Lib.hid fun ad e => Nat.lt_of_lt_of_le HO1.out.lt (Nat.le_trans (by simp) (p5 ad e))
        clear p3 p4 p5 hpl HX1 HY1 HO1 HB1 HL2 HA2
        have HCM := rcmp_c A3 C (dig (R + R + 1)) ys (dig (R + R + 1)).length c3 ys.length d w2 HL3.out HY3.out rfl rfl (by omega) (by omega)
        rw [val_dig] at HCM
        rcases Nat.lt_or_ge (R + R + 1) (val ys) with hlt | hge
        · rw [cmpI_lt hlt] at HCM
          have HLT := Lib.hid hlt
          clear hlt
          go_wp2_with fail
          refine HCM.mono ?_
          rintro e w9 ⟨rfl, rfl⟩
          clear HCM
          go_wp2_with fail
          go_roundw
          case rel =>
            have hV : 2 * R + val xs / 2 ^ i % 2 = R + R + 1 := by rw [HTT.out]; omega
            have hlow := HD.out.low (by rw [hV]; exact HLT.out)
            rw [hV] at hlow
            refine ⟨i, _, _, os, A3, c3, by omega, rfl, hlow, HO3'.out, HOL.out, ?_, rfl, HL3.out, HA3.out, p1, p2, HB3.out⟩
            rw [HOQ.out, Nat.pow_succ, Nat.mul_assoc]
          case measure => simp [intOf]
        · obtain ⟨z, hz, hz0⟩ := cmpI_ge hge
          rw [hz] at HCM
          have HGE := Lib.hid hge
          have hzd : decide (z < 0) = false := by simpa using hz0
          have HMI := rminus_c A3 C (dig (R + R + 1)) ys (dig (R + R + 1)).length c3 ys.length d w2 HL3.out HY3.out rfl rfl (by omega) (by rw [val_dig]; exact hge)
          rw [val_dig] at HMI
          clear hge hz
          go_wp2_with fail
          refine HCM.mono ?_
          rintro e w9 ⟨rfl, rfl⟩
          clear HCM
          go_wp2_with fail
          refine HMI.mono ?_
          rintro e w8 ⟨A8, c8, rfl, u1, u2, u3, u4, u5⟩
          clear HMI
          have HO8 := HO3'.out.below u4.below HO3'.out.lt
          have HB8 := Lib.hid (HB3.out.trans (u4.below.mono HB3.out.size))
          have hoi : i / 32 < os.length := by rw [HOL.out]; exact hix
          have hcell := HO8.cell hoi
          have hfro := HO8.frozen (i / 32)
          obtain ⟨hs1, hs2⟩ := set_bit HO8.1 hoi HOQ.out
          obtain ⟨b0, b1, b2⟩ := orbit_i (b := i % 32) (lim_lt HO8.1 (i / 32)) (Nat.mod_lt _ (by decide))
          have HO4 := Lib.hid HO8
          have HS1 := Lib.hid hs1
          have HS2 := Lib.hid hs2
          have HL8 := Lib.hid u3
          have HA8 : Hid (∀ ad, A8 = some ad → w.heap.size < ad.block) := Lib.hid fun ad e => Nat.lt_of_lt_of_le HO3'.out.lt (u5 ad e)
          clear u3 u4 u5 HO8 hs1 hs2 hoi
          go_wp2_with fail
          go_roundw
          case rel =>
            have hV : 2 * R + val xs / 2 ^ i % 2 = R + R + 1 := by rw [HTT.out]; omega
            have hhi := HD.out.high (by rw [hV]; exact HGE.out)
            rw [hV] at hhi
            exact ⟨i, _, _, _, A8, c8, by omega, rfl, hhi, HO4.out.set (by rw [HOL.out]; exact hix) HS2.out, by rw [List.length_set]; exact HOL.out, HS1.out, rfl, HL8.out.setCell _ (fun ad e => by have := HA8.out ad e; simp; omega), HA8.out, u1, u2, HB8.out.setCell (Nat.le_refl _) _⟩
          case measure => simp [intOf]
end Go.Proofs.Ythaokkmbghgopaa
