/- big: sum, subtract, product, divide, fitting. -/
import Derived.Test.YtakahpbondaidaaGreatDoorPZF
namespace Go.Proofs.YtakahpbondaidaaGreatDoor.Bg
open Go.RowKit

set_option maxHeartbeats 1000000 in
theorem sum_c (A C : Option Addr) (xs ys : List Nat) (c d : Nat) (w : World) (h : Lim w A xs) (k : Lim w C ys) (hl : xs.length ≤ 1048576) (kl : ys.length ≤ 1048576) :
    Calls Tryz.prog 222 #[.slice A xs.length c, .slice C ys.length d] w (NewL (max xs.length ys.length + 1) (val xs + val ys) w) := by
  by_cases hlt : xs.length < ys.length
  · have hM : max xs.length ys.length = ys.length := by omega
    have h1 : xs.length < ys.length + 1 := by omega
    have h2 : ys.length < ys.length + 1 := by omega
    have hmk := run_make_row' (P := Tryz.prog) 24 69 (.int .u32 0) 4 Tryz.underlying24 info53_ rfl .i64 .i64 (ys.length + 1) (by omega) (by omega)
    rw [zeros_cells, show ((ys.length + 1 : Nat) : Int) = (ys.length : Int) + 1 by omega] at hmk
    rw [hM]
    clear hM
    go_enter Tryz.func222, Tryz.ntmps222
    go_wp2
    clear hmk
    go_loopw [6, 18] (SumRel xs ys w.heap.size (ys.length + 1) w) (fun _ s18 _ => ((ys.length : Int) + 1 - intOf s18).toNat)
    case atStart => exact ⟨0, [], 0, by omega, rfl, rfl, SumAt.zero xs ys, Own.zeros w _ 69 _ rfl, (Below.refl _ _).alloc (Nat.le_refl _) _⟩
    case round =>
      obtain ⟨j, os, cy, hj, rfl, rfl, hS, hO, hB⟩ := hrel
      by_cases hlt2 : j < ys.length + 1
      · have hA : Lim wr A xs := h.below hB
        have hC : Lim wr C ys := k.below hB
        obtain ⟨x0, x1⟩ := lim_i h.1 j
        obtain ⟨y0, y1⟩ := lim_i k.1 j
        have hcy : (cy : Int) ≤ 1 := by have := hS.carry; omega
        have hlen : j < (os ++ List.replicate (ys.length + 1 - j) 0).length := by rw [List.length_append, List.length_replicate, hS.len]; omega
        have hcell := hO.cell hlen
        have hfro := hO.frozen j
        have HS := Lib.hid hS
        have HO := Lib.hid hO
        have HL := Lib.hid hlen
        clear hS hO hlen
        have hjl : (j : Int) < (ys.length : Int) + 1 := by omega
        go_wp2_with (first | (go_at_call_of 246 (Value.slice A xs.length c); refine (limb_c A xs c j _ (by exact hA)).mono ?_; rintro e w1 ⟨rfl, rfl⟩) | (go_at_call_of 246 (Value.slice C ys.length d); refine (limb_c C ys d j _ (by exact hC)).mono ?_; rintro e w1 ⟨rfl, rfl⟩))
        go_roundw
        case rel => exact SumRel.step h.1 k.1 hlt2 HS.out HO.out hB (Nat.le_refl _)
        case measure => simp [intOf]; omega
      · obtain rfl : j = ys.length + 1 := by omega
        obtain ⟨hv, _⟩ := hS.done h.1 k.1 h1 h2
        have HL := Lib.hid hS.len
        have HV := Lib.hid hv
        have HO : Hid (Own wr w.heap.size os) := Lib.hid (by simpa using hO)
        clear hS hO hv
        go_wp2
        go_ret
        exact ⟨w.heap.size, os, by rw [HL.out]; rfl, Nat.le_refl _, HO.out, HV.out, by rw [HL.out]; exact Nat.le_refl _, hB⟩
  · have hM : max xs.length ys.length = xs.length := by omega
    have h1 : xs.length < xs.length + 1 := by omega
    have h2 : ys.length < xs.length + 1 := by omega
    have hmk := run_make_row' (P := Tryz.prog) 24 69 (.int .u32 0) 4 Tryz.underlying24 info53_ rfl .i64 .i64 (xs.length + 1) (by omega) (by omega)
    rw [zeros_cells, show ((xs.length + 1 : Nat) : Int) = (xs.length : Int) + 1 by omega] at hmk
    rw [hM]
    clear hM
    go_enter Tryz.func222, Tryz.ntmps222
    go_wp2
    clear hmk
    go_loopw [6, 18] (SumRel xs ys w.heap.size (xs.length + 1) w) (fun _ s18 _ => ((xs.length : Int) + 1 - intOf s18).toNat)
    case atStart => exact ⟨0, [], 0, by omega, rfl, rfl, SumAt.zero xs ys, Own.zeros w _ 69 _ rfl, (Below.refl _ _).alloc (Nat.le_refl _) _⟩
    case round =>
      obtain ⟨j, os, cy, hj, rfl, rfl, hS, hO, hB⟩ := hrel
      by_cases hlt2 : j < xs.length + 1
      · have hA : Lim wr A xs := h.below hB
        have hC : Lim wr C ys := k.below hB
        obtain ⟨x0, x1⟩ := lim_i h.1 j
        obtain ⟨y0, y1⟩ := lim_i k.1 j
        have hcy : (cy : Int) ≤ 1 := by have := hS.carry; omega
        have hlen : j < (os ++ List.replicate (xs.length + 1 - j) 0).length := by rw [List.length_append, List.length_replicate, hS.len]; omega
        have hcell := hO.cell hlen
        have hfro := hO.frozen j
        have HS := Lib.hid hS
        have HO := Lib.hid hO
        have HL := Lib.hid hlen
        clear hS hO hlen
        have hjl : (j : Int) < (xs.length : Int) + 1 := by omega
        go_wp2_with (first | (go_at_call_of 246 (Value.slice A xs.length c); refine (limb_c A xs c j _ (by exact hA)).mono ?_; rintro e w1 ⟨rfl, rfl⟩) | (go_at_call_of 246 (Value.slice C ys.length d); refine (limb_c C ys d j _ (by exact hC)).mono ?_; rintro e w1 ⟨rfl, rfl⟩))
        go_roundw
        case rel => exact SumRel.step h.1 k.1 hlt2 HS.out HO.out hB (Nat.le_refl _)
        case measure => simp [intOf]; omega
      · obtain rfl : j = xs.length + 1 := by omega
        obtain ⟨hv, _⟩ := hS.done h.1 k.1 h1 h2
        have HL := Lib.hid hS.len
        have HV := Lib.hid hv
        have HO : Hid (Own wr w.heap.size os) := Lib.hid (by simpa using hO)
        clear hS hO hv
        go_wp2
        go_ret
        exact ⟨w.heap.size, os, by rw [HL.out]; rfl, Nat.le_refl _, HO.out, HV.out, by rw [HL.out]; exact Nat.le_refl _, hB⟩

set_option maxHeartbeats 1000000 in
theorem subtract_c (g : Nat) (C : Option Addr) (xs ys : List Nat) (c d : Nat) (w : World) (h : Own w g xs) (k : Lim w C ys) (hne : 0 < ys.length → ∀ ad, C = some ad → ad.block ≠ g) (hle : val ys ≤ val xs) (hl : xs.length ≤ 1048576) :
    Calls Tryz.prog 223 #[.slice (some ⟨g, 0, none⟩) xs.length c, .slice C ys.length d] w (Subbed g xs ys w) := by
  go_enter Tryz.func223, Tryz.ntmps223
  go_wp2
  go_step3
  go_wp2
  go_step3
  go_wp2
  go_loopw [4, 9] (SubRel xs ys g w) (fun _ s9 _ => ((xs.length : Int) - intOf s9).toNat)
  case atStart => exact ⟨0, xs, 0, by omega, rfl, rfl, SubAt.zero ys h.1, h, grown_refl w _⟩
  case round =>
    obtain ⟨j, os, cy, hj, rfl, rfl, hS, hO, hB⟩ := hrel
    by_cases hlt2 : j < xs.length
    · have hC : Lim wr C ys := k.grown' hB (fun h0 ad e => by simpa using hne h0 ad e)
      by_cases hst : ys.length ≤ j ∧ cy = 0
      · obtain ⟨q1, rfl⟩ := hst
        have HD := Lib.hid (hS.stop q1)
        have HO := Lib.hid hO
        have HL := Lib.hid hS.len
        have b1 : decide (ys.length ≤ j) = true := by simpa using q1
        clear hS hO
        go_wp2
        show bodyPost _ _ _ Exit.normal _ _
        go_end0
        exact ⟨os, rfl, HO.out, HD.out, HL.out, hB⟩
      · obtain ⟨x0, x1⟩ := lim_i h.1 j
        obtain ⟨y0, y1⟩ := lim_i k.1 j
        have hcy : (cy : Int) ≤ 1 := by have := hS.carry; omega
        have hjo : j < os.length := by rw [hS.len]; exact hlt2
        have hlx : lim os j = lim xs j := lim_rest (hS.rest j (Nat.le_refl _))
        have hcell := hO.cell hjo
        rw [hlx] at hcell
        have hfro := hO.frozen j
        have HS := Lib.hid hS
        have HO := Lib.hid hO
        have HJ := Lib.hid hjo
        clear hS hO hlx hjo
        have hst' : decide (ys.length ≤ j) = false ∨ decide (ys.length ≤ j) = true ∧ ((cy : Int) == 0) = false := by
          by_cases q : ys.length ≤ j
          · exact .inr ⟨by simpa using q, by simp; omega⟩
          · exact .inl (by simpa using q)
        clear hst
        rcases hst' with q | ⟨q, q2⟩
        all_goals
          go_wp2
          go_quiet ((go_at_call 246; exact Calls.quiet_of_same ((limb_c C ys d j _ (hC.drewN _)).mono fun _ _ ⟨a, b⟩ => ⟨a, b.symm⟩)))
          go_wp2
          go_roundw
          case rel => exact SubRel.step h.1 k.1 hlt2 HS.out HO.out hB
          case measure => simp [intOf]; omega
    · obtain rfl : j = xs.length := by omega
      have HD := Lib.hid (hS.done h.1 hle)
      have HO := Lib.hid hO
      have HL := Lib.hid hS.len
      clear hS hO
      go_wp2
      show bodyPost _ _ _ Exit.normal _ _
      go_end0
      exact ⟨os, rfl, HO.out, HD.out, HL.out, hB⟩

theorem subtract_i (g : Nat) (C : Option Addr) (xs ys : List Nat) (n c d : Nat) (w : World) (h : Own w g xs) (k : Lim w C ys) (hn : n = xs.length) (hne : 0 < ys.length → ∀ ad, C = some ad → ad.block ≠ g) (hle : val ys ≤ val xs) (hl : xs.length ≤ 1048576) :
    Calls Tryz.prog 223 #[.slice (some ⟨g, 0, none⟩) n c, .slice C ys.length d] w (Subbed g xs ys w) := by
  subst hn
  exact subtract_c g C xs ys c d w h k hne hle hl
set_option maxHeartbeats 4000000 in
theorem divide_c (A C : Option Addr) (xs ys : List Nat) (c d : Nat) (w : World) (h : Lim w A xs) (k : Lim w C ys) (hl : xs.length ≤ 1024) (kl : ys.length ≤ 1024) (hy : 0 < val ys) :
    Calls Tryz.prog 225 #[.slice A xs.length c, .slice C ys.length d] w (NewQR xs.length (ys.length + 1) (val xs / val ys) (val xs % val ys) w) := by
  have hmk := run_make_row' (P := Tryz.prog) 24 69 (.int .u32 0) 4 Tryz.underlying24 info53_ rfl .i64 .i64 xs.length (by omega) (by omega)
  have hmk2 := run_make_row' (P := Tryz.prog) 24 69 (.int .u32 0) 4 Tryz.underlying24 info53_ rfl .i64 .i64 (ys.length + 1) (by omega) (by omega)
  rw [zeros_cells] at hmk
  rw [zeros_cells, show ((ys.length + 1 : Nat) : Int) = (ys.length : Int) + 1 by omega] at hmk2
  obtain ⟨ady, rfl, hyb, _⟩ := k.2 (by rcases ys with _ | ⟨y, ys⟩; exact absurd hy (by simp [val]); simp)
  go_enter Tryz.func225, Tryz.ntmps225
  go_wp2
  go_step3
  go_wp2
  go_step3
  go_wp2
  clear hmk hmk2
  go_loopw [6] (DivRel xs ys w.heap.size w) (fun s6 _ => (intOf s6 + 1).toNat)
  case atStart =>
    refine ⟨xs.length * 32, 0, 0, _, _, Nat.le_refl _, by rw [show ((xs.length * 32 : Nat) : Int) = (xs.length : Int) * 32 by omega], DivAt.top ?_ hy, (Own.zeros w _ 69 _ rfl).alloc _, by simp, by rw [val_zeros, Nat.mul_zero], Own.zeros' _ _ _ _ _ rfl (by simp), by simp, val_zeros _, ((Below.refl _ _).alloc (Nat.le_refl _) _).alloc (by simp) _⟩
    rw [Nat.mul_comm, ← pow_bits]
    exact val_lt h.1
  case round =>
    obtain ⟨j, Q, R, os, rs, hj, rfl, hD, hO, hol, hoq, hR, hrl, hrr, hB⟩ := hrel
    rcases j with _ | i
    · obtain ⟨hq, hr⟩ := hD.done
      have HQ : Hid (val os = val xs / val ys) := Lib.hid (by rw [hoq, hq]; simp)
      have HR2 : Hid (val rs = val xs % val ys) := Lib.hid (by rw [hrr, hr])
      have HO := Lib.hid hO
      have HR := Lib.hid hR
      have HOL := Lib.hid hol
      have HRL := Lib.hid hrl
      clear hD hO hR hol hoq hrl hrr hq hr
      go_wp2
      rw [Exit.noGoto_ret]
      go_ret2
      exact ⟨os, rs, by rw [HOL.out, HRL.out]; rfl, HO.out, HR.out, HQ.out, HR2.out, by rw [HOL.out]; exact Nat.le_refl _, by rw [HRL.out]; exact Nat.le_refl _, hB⟩
    · rw [show ((i + 1 : Nat) : Int) - 1 = i by omega]
      have hix : i / 32 < xs.length := by omega
      obtain ⟨ad, rfl, hxc⟩ := (h.below hB).at_ hix
      have ei : ((i : Int) / 32).toNat = i / 32 := by omega
      have ei1 : (i : Int) / 32 < (xs.length : Int) := by omega
      obtain ⟨x0, x1⟩ := lim_i h.1 (i / 32)
      have HB := Lib.hid (bit_of h.1 i)
      have HD := Lib.hid hD
      have HO := Lib.hid hO
      have HR := Lib.hid hR
      have HOL := Lib.hid hol
      have HOQ := Lib.hid hoq
      have HRL := Lib.hid hrl
      have HRR := Lib.hid hrr
      clear hD hO hR hol hoq hrl hrr
      go_wp2_with fail
      refine (grow_i _ _ _ _ 2 (lim xs (i / 32) / 2 ^ (i % 32) % 2) _ _ _ HR.out HRL.out.symm rfl (bit_i (lim_lt h.1 _)) (by decide) (by have := B_eq; omega) (by have := HRL.out; omega)).mono ?_
      rintro e w1 ⟨rs1, cy, rfl, hR1, hv1, hl1, hc1, hg1⟩
      have HV1 : Hid (val rs1 = 2 * R + val xs / 2 ^ i % 2) := Lib.hid (by
        rw [HRL.out, HRR.out] at hv1
        have := grow_zero hv1 (Nat.mod_lt _ (by decide)) HD.out.lt (Nat.le_of_lt (val_lt k.1))
        rw [this, HB.out])
      have hC1 : Lim w1 (some ady) ys := (k.below hB).grown hg1 (fun ad e => by injection e with e; subst e; simp; omega)
      have HB1 := Lib.hid (hB.grown hg1 hB.size (fun k e => by injection e with e; omega))
      have HO1 := Lib.hid (HO.out.grown hg1 (by simp))
      have HL1 : Hid (rs1.length = ys.length + 1) := Lib.hid (by rw [hl1, HRL.out])
      have HR1 := Lib.hid hR1
      clear hv1 hl1 hc1 hg1 hR1
      rcases Nat.lt_or_ge (val rs1) (val ys) with hlt | hge
      · have HE := Lib.hid (cmpI_lt hlt)
        have HLT := Lib.hid hlt
        clear hlt
        go_wp2_with fail
        refine (compare_i _ _ _ _ _ _ _ _ HR1.out.toLim hC1 HL1.out.symm (by rw [HL1.out]; omega) (by omega)).mono ?_
        rintro e w2 ⟨rfl, rfl⟩
        rw [HE.out]
        go_wp2
        go_roundw
        case rel =>
          refine ⟨i, _, _, os, rs1, by omega, rfl, HD.out.low (by rw [← HV1.out]; exact HLT.out), HO1.out, HOL.out, ?_, HR1.out, HL1.out, HV1.out, HB1.out⟩
          rw [HOQ.out, Nat.pow_succ, Nat.mul_assoc]
        case measure => simp [intOf]
      · obtain ⟨z, hz, hz0⟩ := cmpI_ge hge
        have HZ := Lib.hid hz
        have HGE := Lib.hid hge
        clear hge hz
        have hzd : decide (z < 0) = false := by simpa using hz0
        go_wp2_with fail
        refine (compare_i _ _ _ _ _ _ _ _ HR1.out.toLim hC1 HL1.out.symm (by rw [HL1.out]; omega) (by omega)).mono ?_
        rintro e w2 ⟨rfl, rfl⟩
        rw [HZ.out]
        go_wp2_with fail
        refine (subtract_i _ _ _ _ _ _ _ _ HR1.out hC1 HL1.out.symm (fun _ ad e => by injection e with e; subst e; omega) HGE.out (by rw [HL1.out]; omega)).mono ?_
        rintro e w2 ⟨rs2, rfl, hR2, hv2, hl2, hg2⟩
        have hV2 : val rs2 = 2 * R + val xs / 2 ^ i % 2 - val ys := by have := HV1.out; omega
        have HO2 := HO1.out.grown hg2 (by simp)
        have hoi : i / 32 < os.length := by rw [HOL.out]; exact hix
        have hcell := HO2.cell hoi
        have hfro := HO2.frozen (i / 32)
        obtain ⟨hs1, hs2⟩ := set_bit HO1.out.1 hoi HOQ.out
        obtain ⟨b0, b1, b2⟩ := orbit_i (b := i % 32) (lim_lt HO1.out.1 (i / 32)) (Nat.mod_lt _ (by decide))
        have HB2 := Lib.hid (HB1.out.grown hg2 HB1.out.size (fun k e => by injection e with e; omega))
        have HO3 := Lib.hid HO2
        have HS1 := Lib.hid hs1
        have HS2 := Lib.hid hs2
        have HR2 := Lib.hid hR2
        have HV2 := Lib.hid hV2
        have HL2 : Hid (rs2.length = ys.length + 1) := Lib.hid (by rw [hl2, HL1.out])
        clear hv2 hl2 hg2 HO2 hs1 hs2 hR2 hV2 hoi
        go_wp2
        go_region
        all_goals
          go_wp2
          go_roundw
          case rel => exact ⟨i, _, _, _, rs2, by omega, rfl, HD.out.high (by rw [← HV1.out]; exact HGE.out), (HO3.out.set (by rw [HOL.out]; exact hix) HS2.out).drew, by rw [List.length_set]; exact HOL.out, HS1.out, (HR2.out.far (by simp) _).drew, HL2.out, HV2.out, (HB2.out.setCell (Nat.le_refl _) _).drew⟩
          case measure => simp [intOf]

set_option maxHeartbeats 1000000 in
theorem fitting_c (neg : Bool) (A : Option Addr) (xs : List Nat) (n c : Nat) (w : World) (h : Lim w A xs) (hn : n = xs.length) (hl : xs.length ≤ c) (hc : c ≤ 9223372036854775807) :
    Calls Tryz.prog 221 #[.bool neg, .slice A n c] w (RetBigOk (sgn neg (val xs)) w) := by
  subst hn
  obtain ⟨m, hm⟩ : ∃ m, val xs = m := ⟨_, rfl⟩
  have hL := h.dig
  have hd := (dig_head h.1).2
  rw [hm] at hL hd
  rw [hm]
  have HM := Lib.hid hm; clear hm
  obtain ⟨L, hlen⟩ : ∃ L, (dig m).length = L := ⟨_, rfl⟩
  by_cases h0 : m < B ^ 8
  · have hL8 : (L : Int) ≤ 8 := by rw [← hlen]; have := dig_long.2 h0; omega
    have HL := Lib.hid hlen; clear hlen
    go_enter Tryz.func221, Tryz.ntmps221
    go_wp2_with (go_at_call 186; refine (trim_c _ _ _ _ (h.alloc _) hl hc).mono ?_; rintro e w1 ⟨rfl, rfl⟩; rw [HM.out, HL.out])
    have ev : sgn neg (val (dig m)) = sgn neg m := by rw [val_dig]
    have EV := Lib.hid ev; clear ev
    refine (made_c neg A (dig m) _ c _ (hL.alloc _) HL.out.symm (Nat.le_trans hd hl) hc).mono ?_
    rintro e w1 ⟨A1, c1, rfl, q1, q2, q3, ⟨x1, rfl⟩⟩
    rw [EV.out] at q1 q3 ⊢
    have Q1 := Lib.hid q1; clear q1
    have Q3 := Lib.hid q3; clear q3
    go_wp2_with fail
    go_returns
    refine ⟨A1, c1, _, true, rfl, by rw [sgn_abs]; simp [h0], by rw [sgn_abs, if_pos h0], Q1.out, q2, ?_, ?_⟩
    · exact Q3.out.res
    · repeat' (first | exact Plus.refl _ | refine Plus.alloc ?_ _ | refine Plus.plus ?_ _ | refine Plus.drew ?_ | refine Plus.drewN ?_ _)
  · have hL8 : 8 < (L : Int) := by rw [← hlen]; have := mt dig_long.1 h0; omega
    have HL := Lib.hid hlen; clear hlen
    go_enter Tryz.func221, Tryz.ntmps221
    go_wp2_with (go_at_call 186; refine (trim_c _ _ _ _ (h.alloc _) hl hc).mono ?_; rintro e w1 ⟨rfl, rfl⟩; rw [HM.out, HL.out])
    go_returns
    refine ⟨none, 0, 0, false, by rw [show (0 : Int).natAbs = 0 from rfl, dig_zero]; rfl, by rw [sgn_abs]; simp [h0], by rw [sgn_abs, if_neg h0], by rw [show (0 : Int).natAbs = 0 from rfl, dig_zero]; exact Nat.le_refl _, by omega, by rw [show (0 : Int).natAbs = 0 from rfl, dig_zero]; exact Lim.nil, (Plus.refl _).alloc _⟩

end Go.Proofs.YtakahpbondaidaaGreatDoor.Bg
