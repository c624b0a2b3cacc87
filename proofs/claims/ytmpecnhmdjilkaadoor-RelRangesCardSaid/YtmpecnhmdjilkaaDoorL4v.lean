/- Walk of RelRanges. -/
import Derived.WalkKit
import Derived.WalkSpells
import Derived.WalkLawsBesides
import Derived.Handy
import Derived.Deep.RegionHeld3
import Derived.Deep.DeepCutAuto
import Derived.Deep.QuietTactic
import Derived.BigQuiet
import Derived.Lib.Hide
import Derived.KernelRfl
import Derived.WalkMore
import Derived.Deep.LoopGhost
import Derived.IntWalk
import Derived.Deep.RegionLaw
import Derived.RangeFuncBox
import Derived.Test.YtmpecnhmdjilkaaDoorF1
import Derived.Test.YtmpecnhmdjilkaaDoorK18
import Derived.Test.YtmpecnhmdjilkaaDoorK19
import Derived.Test.YtmpecnhmdjilkaaDoorL6v
namespace Go.Proofs.YtmpecnhmdjilkaaDoor
open Go.RowKit


theorem rngd_c {R : Nat → Nat → Bool} {p B n K : Nat} {hs : List Nat} (z : Int) (w : World) (hL : Lai w) (H : Rl w B p n K R hs) (hK : K ≤ 1000) (hn : n ≤ 1000) : Calls Tryd.prog 20 #[.pointer (some ⟨p, 0, none⟩), .int .i64 z] w (RetPs (((prs R K n).take z.toNat).map toPr) w) := by
  by_cases hz : z ≤ 0
  · have e : z.toNat = 0 := by omega
    rw [e]
    exact (callsIn_wide.1 (ranged_0 w hz)).mono fun e w' ⟨h1, h2⟩ => ⟨none, 0, h1, World.ownsRow_nil _ _ _ _, h2⟩
  · obtain ⟨k, rfl⟩ := Int.eq_ofNat_of_zero_le (show 0 ≤ z by omega)
    exact callsIn_wide.1 (ranged_in w hL H hK hn (by omega))
theorem pa_own {w : World} {B c : Nat} {V : Option Addr} {qs : List Pr} {k : Nat} (hk : qs.length = k) (h : w.ownsRow B 40 2 (.slice V qs.length c) qs.length (rowP qs)) : Pa w V qs k c := by
  subst hk
  exact pa_of_own h
set_option maxRecDepth 100000 in
set_option maxHeartbeats 8000000 in
theorem ranges_x {l : List Ev} {ps : List Pr} {A B : Option Addr} {n c m d : Nat} {N K L M : Nat} {R : Nat → Nat → Bool} {z : Int} (w : World) (HLA : Hid (Lai w)) (HLG : Hid (Lg w l ps A n c B m d)) (HBE : Hid (∀ w', Plus w w' → Calls Tryd.prog 17 #[.agg #[.slice A n c, .slice B m d]] w' (RetRl N K R w'))) (hK : K ≤ 1000) (hN : N ≤ 1000) (HQL : Hid (((prs R K N).map toPr).length = L)) (HOL : Hid ((((prs R K N).take z.toNat).map toPr).length = M)) (hLb : L ≤ 64000000) (HM : Hid (M = min z.toNat L)) : Calls Tryd.prog 4 #[.agg #[.slice A n c, .slice B m d], .int .i64 z] w fun e w' => e = .returned (.bool true) ∧ Plus w w' := by
  go_enter Tryd.func4, Tryd.ntmps4
  go_wp2_with (first | (go_at_call 9; (with_reducible refine (first_c _ (HLA.out.plus (by repeat' (first | exact Plus.refl _ | refine Plus.alloc ?_ _ | refine Plus.plus ?_ _ | refine Plus.drew ?_ | refine Plus.drewN ?_ _)))).mono ?_); rintro e xw ⟨rfl, ⟨y0, rfl⟩⟩) | (go_at_call 10; (with_reducible refine (few_t _ (HLG.out.plus (by repeat' (first | exact Plus.refl _ | refine Plus.alloc ?_ _ | refine Plus.plus ?_ _ | refine Plus.drew ?_ | refine Plus.drewN ?_ _)))).mono ?_); rintro e xw ⟨bf, rfl, hbf, ⟨yf, rfl⟩⟩; clear hbf))
  · go_returns
    exact ⟨rfl, (by repeat' (first | exact Plus.refl _ | refine Plus.alloc ?_ _ | refine Plus.plus ?_ _ | refine Plus.drew ?_ | refine Plus.drewN ?_ _))⟩
  · have hbf : bf = true := by cases bf <;> simp_all
    subst hbf
    go_upto_region 10 with (first | (go_at_call 17; (with_reducible refine (HBE.out _ (by repeat' (first | exact Plus.refl _ | refine Plus.alloc ?_ _ | refine Plus.plus ?_ _ | refine Plus.drew ?_ | refine Plus.drewN ?_ _))).mono ?_); rintro e xw ⟨p1, hs1, rfl, hR, ⟨x1, rfl⟩⟩; have HR := Lib.hid hR; clear hR) | (go_at_call 19; (with_reducible refine (list_c _ (HLA.out.plus (by repeat' (first | exact Plus.refl _ | refine Plus.alloc ?_ _ | refine Plus.plus ?_ _ | refine Plus.drew ?_ | refine Plus.drewN ?_ _))) (HR.out.plus (by repeat' (first | exact Plus.refl _ | refine Plus.alloc ?_ _ | refine Plus.plus ?_ _ | refine Plus.drew ?_ | refine Plus.drewN ?_ _))) hK hN).mono ?_); rintro e xw ⟨D1, cD1, rfl, hO1, ⟨x2, rfl⟩⟩; have HO1 := Lib.hid hO1; clear hO1; rw [HQL.out]) | (go_at_call 20; (with_reducible refine (rngd_c z _ (HLA.out.plus (by repeat' (first | exact Plus.refl _ | refine Plus.alloc ?_ _ | refine Plus.plus ?_ _ | refine Plus.drew ?_ | refine Plus.drewN ?_ _))) (HR.out.plus (by repeat' (first | exact Plus.refl _ | refine Plus.alloc ?_ _ | refine Plus.plus ?_ _ | refine Plus.drew ?_ | refine Plus.drewN ?_ _))) hK hN).mono ?_); rintro e xw ⟨D2, cD2, rfl, hO2, ⟨x3, rfl⟩⟩; have HO2 := Lib.hid hO2; clear hO2; rw [HOL.out]))
    obtain ⟨W, hW⟩ : ∃ W, plus (plus (plus (plus (plus (w.alloc (.cells #[.slice A n c, .slice B m d] 25)) y0) yf) x1) x2) x3 = W := ⟨_, rfl⟩
    have hPW : Plus w W := by rw [← hW]; exact (by repeat' (first | exact Plus.refl _ | refine Plus.alloc ?_ _ | refine Plus.plus ?_ _ | refine Plus.drew ?_ | refine Plus.drewN ?_ _))
    have P1 : Pa W D1 ((prs R K N).map toPr) L cD1 := by
      rw [← hW]
      exact pa_own HQL.out (own_plus (v := .slice D1 ((prs R K N).map toPr).length cD1) HO1.out (Plus.is x3))
    have P2 : Pa W D2 (((prs R K N).take z.toNat).map toPr) M cD2 := by
      rw [← hW]
      exact pa_own HOL.out HO2.out
    rw [hW]
    clear hW
    have hc1 := P1.cap
    have hm1 := P1.max
    have hc2 := P2.cap
    have hm2 := P2.max
    have HP1 := Lib.hid P1
    have HP2 := Lib.hid P2
    have HPW := Lib.hid hPW
    clear P1 P2 hPW HO1 HO2 HR
    go_cut [31] (fun s31 wx => s31 = .bool false ∧ wx = W)
    case first =>
      have hML : M ≤ L := by have := HM.out; omega
      rcases Int.lt_or_le z 0 with hz | hz
      · go_wp2_with fail
        go_meet
        exact ⟨by have := HM.out; simp only [Value.bool.injEq, bne_eq_false_iff_eq]; omega, rfl⟩
      · rcases Int.lt_or_le (L : Int) z with h2 | h2
        · go_wp2_with fail
          go_meet
          exact ⟨by have := HM.out; simp only [Value.bool.injEq, bne_eq_false_iff_eq]; omega, rfl⟩
        · go_wp2_with fail
          go_meet
          exact ⟨by have := HM.out; simp only [Value.bool.injEq, bne_eq_false_iff_eq]; omega, rfl⟩
    case rest =>
      obtain ⟨rfl, hwc⟩ := hcut
      rw [hwc]
      clear hwc
      go_wp2_with fail
      go_loopw [8] (fun s8 wr => ∃ i : Nat, s8 = .int .i64 i ∧ i ≤ M ∧ Plus W wr) (fun s8 _ => ((M : Int) - intOf s8).toNat)
      case atStart => exact ⟨0, rfl, Nat.zero_le _, Plus.refl _⟩
      case round =>
        obtain ⟨i, rfl, hi, ⟨xi, rfl⟩⟩ := hrel
        by_cases hlt : i < M
        · have hil : i < L := by have := HM.out; omega
          obtain ⟨g1, o1, rfl, hg1, hat1⟩ := (HP1.out.rd.plus (Plus.is xi)) (by rw [← HP1.out.len]; omega)
          obtain ⟨g2, o2, rfl, hg2, hat2⟩ := (HP2.out.rd.plus (Plus.is xi)) (by rw [← HP2.out.len]; omega)
          obtain ⟨a0, a1⟩ := hat1 i (by rw [← HP1.out.len]; exact hil)
          obtain ⟨b0, b1⟩ := hat2 i (by rw [← HP2.out.len]; exact hlt)
          have hsame : ((((prs R K N).take z.toNat).map toPr).getD i (0, 0)) = (((prs R K N).map toPr).getD i (0, 0)) := by
            rw [List.map_take, List.getD_eq_getElem?_getD, List.getD_eq_getElem?_getD, List.getElem?_take, if_pos (by have := HM.out; omega)]
          rw [hsame] at b0 b1
          obtain ⟨⟨x, y⟩, hu⟩ : ∃ u, (((prs R K N).map toPr).getD i (0, 0)) = u := ⟨_, rfl⟩
          rw [hu] at a0 a1 b0 b1
          simp only at a0 a1 b0 b1
          have hadd1 := add_addr g1 o1 (i * 2)
          have hadd2 := add_addr g2 o2 (i * 2)
          haveI : Old g1 (plus W xi) := ⟨hg1⟩
          haveI : Old g2 (plus W xi) := ⟨hg2⟩
          clear hat1 hat2 hsame hu
          go_upto_region 15 with fail
          refine wp_region_plus (by kernel_rfl) (by kernel_rfl) ?_
          repeat (go_big_quiet_step (fail))
          refine wpQuiet_nil ?_
          intro _ hw'
          obtain ⟨x7, rfl⟩ := hw'
          go_wp2_with fail
          go_roundw
          case rel => exact ⟨i + 1, int_eq (by omega), by omega, (by repeat' (first | exact Plus.refl _ | refine Plus.alloc ?_ _ | refine Plus.plus ?_ _ | refine Plus.drew ?_ | refine Plus.drewN ?_ _))⟩
          case measure => simp [intOf]; omega
        · obtain rfl : i = M := by omega
          go_wp2_with (go_at_call 9; (with_reducible refine (first_c _ (HLA.out.plus (HPW.out.trans (Plus.is xi)))).mono ?_); rintro e xw ⟨rfl, ⟨y9, rfl⟩⟩)
          go_returns
          exact ⟨rfl, HPW.out.trans (by repeat' (first | exact Plus.refl _ | refine Plus.alloc ?_ _ | refine Plus.plus ?_ _ | refine Plus.drew ?_ | refine Plus.drewN ?_ _))⟩
theorem ranges_w {l : List Ev} {ps : List Pr} {A B : Option Addr} {n c m d : Nat} (w : World) (hL : Lai w) (H : Lg w l ps A n c B m d) (z : Int) : Calls Tryd.prog 4 #[.agg #[.slice A n c, .slice B m d], .int .i64 z] w fun e w' => e = .returned (.bool true) ∧ Plus w w' := by
  have hlen : ∀ (R : Nat → Nat → Bool) (K N : Nat), K ≤ 1000 → N ≤ 1000 → ((prs R K N).map toPr).length ≤ 64000000 := fun R K N hK hN => by
    rw [List.length_map]
    refine Nat.le_trans (prs_len R K N) ?_
    have q : N * (64 * K) ≤ 1000 * (64 * K) := Nat.mul_le_mul_right _ hN
    omega
  have hmin : ∀ (R : Nat → Nat → Bool) (K N : Nat), (((prs R K N).take z.toNat).map toPr).length = min z.toNat ((prs R K N).map toPr).length := fun R K N => by
    rw [List.length_map, List.length_map, List.length_take]
  by_cases h : MayP l ps
  · have hn : n ≤ 1000 := by rw [H.len.1]; exact h.1
    have hK : (n + 63) / 64 ≤ 1000 := by omega
    exact ranges_x w (Lib.hid hL) (Lib.hid H) (Lib.hid fun w' hp => before_m (K := (n + 63) / 64) w' (hL.plus hp) (H.plus hp) (Lib.hid h) (Lib.hid rfl)) hK hn (Lib.hid rfl) (Lib.hid rfl) (hlen _ _ _ hK hn) (Lib.hid (hmin _ _ _))
  · exact ranges_x w (Lib.hid hL) (Lib.hid H) (Lib.hid fun w' hp => before_i (K := 0) (R := fun _ _ => false) w' (hL.plus hp) (H.plus hp) (Lib.hid ⟨fun q => absurd q h, fun q => by cases q⟩)) (by omega) (by omega) (Lib.hid rfl) (Lib.hid rfl) (hlen _ _ _ (by omega) (by omega)) (Lib.hid (hmin _ _ _))
end Go.Proofs.YtmpecnhmdjilkaaDoor
