/- The document's Before; its relations asked and listed; renlaw15.same. -/
import Derived.WalkKit
import Derived.WalkSpells
import Derived.WalkLawsBesides
import Derived.Handy
import Derived.Deep.RegionHeld3
import Derived.Deep.DeepCutAuto
import Derived.Deep.QuietTactic
import Derived.BigQuiet
import Derived.Lib.Hide
import Derived.KernelRfl
import Derived.WalkMore
import Derived.Deep.LoopGhost
import Derived.IntWalk
import Derived.Deep.RegionLaw
import Derived.RangeFuncBox
import Derived.BigRegion
import Derived.Laws.AppendOwn
import Derived.Deep.OwnRows
import Derived.Test.YtmfdlcicbiincaaDoorD3
import Derived.Test.YtmfdlcicbiincaaDoorDA
import Derived.Test.YtmfdlcicbiincaaDoorK6
import Derived.Test.YtmfdlcicbiincaaDoorK11
import Derived.Test.YtmfdlcicbiincaaDoorK18
namespace Go.Proofs.YtmfdlcicbiincaaDoor

section
open Go.RowKit


set_option maxRecDepth 100000 in
set_option maxHeartbeats 16000000 in
theorem rbefore_t {l : List Ev} {ps : List Pr} {A B : Option Addr} {n c m d : Nat} (w : World) (H : Lg w l ps A n c B m d) (HM0 : Hid (MayR l ps true)) (HMM : Hid (MayP l ps)) (HSM : Hid (SmL l)) : Calls Tryd.prog 19 #[.agg #[.slice A n c, .slice B m d]] w (RetMx n (befB l ps) w) := by
  have hn : n ≤ 1000 := by rw [H.len.1]; exact HMM.out.1
  have HLN := Lib.hid H.len.1
  obtain ⟨rs, hrl, hes⟩ := H.ev
  have HES := Lib.hid hes
  have HRL := Lib.hid hrl
  have hcap := hes.cap
  have hmx := hes.max
  have HLG := Lib.hid H
  clear hes hrl H
  go_enter Tryd.func19, Tryd.ntmps19
  go_wp2_with (first | (go_at_call 17; (with_reducible refine (rsync_t _ (HLG.out.plus (by repeat' (first | exact Plus.refl _ | refine Plus.alloc ?_ _ | refine Plus.plus ?_ _ | refine Plus.drew ?_ | refine Plus.drewN ?_ _))) HM0 HMM HSM).mono ?_); rintro e xw ⟨g, hs, rfl, hMx, ⟨x1, rfl⟩⟩; have HMX := Lib.hid hMx; clear hMx))
  obtain ⟨W0, hW0⟩ : ∃ W0, w.alloc (.cells #[.slice A n c, .slice B m d] 30) = W0 := ⟨_, rfl⟩
  have hBX : Bt 30 W0 w.heap.size (.slice A n c) (.slice B m d) := by rw [← hW0]; exact (bt_new w _ _ _ rfl)
  have hP0 : Plus w W0 := by rw [← hW0]; exact (by repeat' (first | exact Plus.refl _ | refine Plus.alloc ?_ _ | refine Plus.plus ?_ _ | refine Plus.drew ?_ | refine Plus.drewN ?_ _))
  have hmx0 := HMX.out
  rw [hW0] at hmx0 ⊢
  have hzw : w.heap.size ≤ W0.heap.size := hP0.below.size
  have c0 := hBX.c0
  haveI : Old w.heap.size W0 := ⟨hBX.lt⟩
  have HMX0 : Hid (Mx (plus W0 x1) W0.heap.size g n (sncB l ps) hs) := Lib.hid hmx0
  clear hBX hmx0 HMX hW0
  go_loopw [4] (fun s4 wr => ∃ b : Nat, s4 = .int .i64 b ∧ b ≤ n ∧ Hid (Mx wr W0.heap.size g n (BoR l ps b 0) hs) ∧ Below W0.heap.size W0 wr) (fun s4 _ => ((n : Int) - intOf s4).toNat)
  case atStart => exact ⟨0, rfl, Nat.zero_le _, Lib.hid (HMX0.out.ext fun x y _ _ => by
    unfold BoR
    have q : decide (x < y ∧ (y < 0 ∨ y = 0 ∧ x < 0)) = false := decide_eq_false (by omega)
    rw [q]
    simp), Plus.below (Plus.is x1)⟩
  case round =>
    obtain ⟨b, rfl, hb, HM, hB⟩ := hrel
    clear HMX0
    obtain ⟨x0, rfl⟩ := Plus.of_below hB
    by_cases hlt : b < n
    · have hlt' : (b : Int) < n := by omega
      obtain ⟨g1, o1, e1, rfl, _⟩ := (HES.out.plus hP0).at_ hlt
      have lg1 : g1 < W0.heap.size := by
        obtain ⟨g2, o2, e, q, _⟩ := (HES.out.plus hP0).rd (by rw [← HES.out.len]; omega)
        injection e with e
        injection e with e _ _
        rw [e]
        exact q
      haveI : Old g1 W0 := ⟨lg1⟩
      go_wp2_with fail
      go_loopw [5] (fun s5 wr => ∃ a : Nat, s5 = .int .i64 a ∧ a ≤ b ∧ Hid (Mx wr W0.heap.size g n (BoR l ps b a) hs) ∧ Below W0.heap.size W0 wr) (fun s5 _ => ((b : Int) - intOf s5).toNat)
      case atStart => exact ⟨0, rfl, Nat.zero_le _, HM, hB⟩
      case round =>
        obtain ⟨a, rfl, ha, HMI, hBi⟩ := hrel
        obtain ⟨xi, rfl⟩ := Plus.of_below hBi
        by_cases hla : a < b
        · have hla' : (a : Int) < b := by omega
          have han : a < n := by omega
          have han' : (a : Int) < n := by omega
          go_upto_region 8 with fail
          obtain ⟨g2', o2', e2, hA2, hx2, hm2, hM2, r0, r1, r2, r3, r4, r5, r6, r7, r8, r9⟩ := (HES.out.plus (hP0.trans (Plus.is xi))).at_ han
          injection hA2 with hA2
          injection hA2 with hg2 ho2 _
          subst hg2 ho2
          have u2 := getD_map (show a < rs.length by rw [← HES.out.len]; exact han) hx2
          rw [HRL.out] at u2
          have hadd2 := add_addr g1 o1 (a * 10)
          obtain ⟨e2, R2, cr2, X2, cw2, F2, cf2⟩ := e2
          simp only at r0 r1 r2 r3 r4 r5 r6 r7 r8 r9 u2
          clear hx2 hm2 hM2
          obtain ⟨g3', o3', e3, hA3, hx3, hm3, hM3, q0, q1, q2, q3, q4, q5, q6, q7, q8, q9⟩ := (HES.out.plus (hP0.trans (Plus.is xi))).at_ hlt
          injection hA3 with hA3
          injection hA3 with hg3 ho3 _
          subst hg3 ho3
          have u3 := getD_map (show b < rs.length by rw [← HES.out.len]; exact hlt) hx3
          rw [HRL.out] at u3
          have hadd3 := add_addr g1 o1 (b * 10)
          obtain ⟨e3, R3, cr3, X3, cw3, F3, cf3⟩ := e3
          simp only at q0 q1 q2 q3 q4 q5 q6 q7 q8 q9 u3
          clear hx3 hm3 hM3
          have HGG := Lib.hid (show decide ((l.getD a default).g = (l.getD b default).g) = decide (e2.g = e3.g) by rw [u2, u3])
          obtain ⟨fr, hfr⟩ : ∃ v, sncB l ps a b = v := ⟨_, rfl⟩
          obtain ⟨h, hh, hcy, hgl, hhl, hrow, hhB, hne⟩ := HMI.out.at_ han
          have hcb := hrow.cell hlt
          have hfb := hrow.frozen b
          haveI : Old g (plus W0 xi) := ⟨hgl⟩
          haveI : Old h (plus W0 xi) := ⟨hhl⟩
          have hRab : BoR l ps b a a b = fr := by
            unfold BoR
            have q : decide (a < b ∧ (b < b ∨ b = b ∧ a < a)) = false := decide_eq_false (by omega)
            rw [q, hfr]
            simp
          rw [hRab] at hcb
          have HNX := Lib.hid (show ∀ v, v = (fr || decide (e2.g = e3.g)) → ∀ V, Plus (plus W0 xi) V → Mx (V.setCell ⟨h, b, none⟩ (.bool v)) W0.heap.size g n (BoR l ps b (a + 1)) hs ∧ Below W0.heap.size W0 (V.setCell ⟨h, b, none⟩ (.bool v)) from fun v hv V hV => ⟨((HMI.out.plus hV).set (v := v) han hlt hh.out).ext fun x y _ _ => boR_next hla (by rw [hv, hfr, HGG.out]) x y, (hBi.trans (hV.below.mono (by have := hBi.size; omega))).setCell (p := ⟨h, b, none⟩) hhB (.bool v)⟩)
          clear hrow hRab hfr u2 u3 q1 q2 q3 q4 q5 q6 q7 q8 q9 r1 r2 r3 r4 r5 r6 r7 r8 r9
          cases fr
          · go_region
            all_goals go_wp2_with fail
            all_goals first
              | exact ⟨⟨a + 1, int_eq (by omega), by omega, Lib.hid (HNX.out _ (by first | rfl | simp) _ (Plus.refl _)).1, (HNX.out _ (by first | rfl | simp) _ (Plus.refl _)).2⟩, by simp [intOf]; omega⟩
              | exact ⟨⟨a + 1, int_eq (by omega), by omega, Lib.hid ((HNX.out _ (by first | rfl | simp) _ (Plus.refl _)).1.plus (Plus.drew (Plus.refl _))), (HNX.out _ (by first | rfl | simp) _ (Plus.refl _)).2.drew⟩, by simp [intOf]; omega⟩
          · go_region
            all_goals go_wp2_with fail
            all_goals first
              | exact ⟨⟨a + 1, int_eq (by omega), by omega, Lib.hid (HNX.out _ rfl _ (Plus.refl _)).1, (HNX.out _ rfl _ (Plus.refl _)).2⟩, by simp [intOf]; omega⟩
              | exact ⟨⟨a + 1, int_eq (by omega), by omega, Lib.hid ((HNX.out _ rfl _ (Plus.refl _)).1.plus (Plus.drew (Plus.refl _))), (HNX.out _ rfl _ (Plus.refl _)).2.drew⟩, by simp [intOf]; omega⟩
        · obtain rfl : b = a := by omega
          have HMN := Lib.hid (HMI.out.ext (R2 := BoR l ps (b + 1) 0) fun x y _ _ => boR_row)
          go_wp2_with fail
          go_roundw
          case rel => exact ⟨b + 1, int_eq (by omega), by omega, HMN, hBi⟩
          case measure => simp [intOf]; omega
    · obtain rfl : n = b := by omega
      have HSP := Lib.hid (HM.out.ext (R2 := wsB l ps 0) fun x y _ hy => boR_end HMM.out hy)
      clear HM
      go_wp2_with fail
      go_loopw [6] (fun s6 wr => ∃ k : Nat, s6 = .int .i64 k ∧ k ≤ n ∧ Hid (Mx wr W0.heap.size g n (wsB l ps k) hs) ∧ Below W0.heap.size W0 wr) (fun s6 _ => ((n : Int) - intOf s6).toNat)
      case atStart => exact ⟨0, rfl, Nat.zero_le _, HSP, hB⟩
      case round =>
        obtain ⟨k, rfl, hk, HMK, hBk⟩ := hrel
        clear HSP
        obtain ⟨xk, rfl⟩ := Plus.of_below hBk
        by_cases hkn : k < n
        · have hkn' : (k : Int) < n := by omega
          go_wp2_with fail
          go_loopw [7] (fun s7 wr => ∃ a : Nat, s7 = .int .i64 a ∧ a ≤ k ∧ Hid (Mx wr W0.heap.size g n (WsR l ps k a 0) hs) ∧ Below W0.heap.size W0 wr) (fun s7 _ => ((k : Int) - intOf s7).toNat)
          case atStart => exact ⟨0, rfl, Nat.zero_le _, Lib.hid (HMK.out.ext fun x y _ _ => wsR_zero.symm), hBk⟩
          case round =>
            obtain ⟨a, rfl, ha, HMA, hBa⟩ := hrel
            clear HMK
            obtain ⟨xa, rfl⟩ := Plus.of_below hBa
            by_cases hak : a < k
            · have hak' : (a : Int) < k := by omega
              have han : a < n := by omega
              have han' : (a : Int) < n := by omega
              go_wp2_with fail
              go_loopw [8] (fun s8 wr => ∃ b : Nat, s8 = .int .i64 b ∧ k + 1 ≤ b ∧ b ≤ n ∧ Hid (Mx wr W0.heap.size g n (WsR l ps k a b) hs) ∧ Below W0.heap.size W0 wr) (fun s8 _ => ((n : Int) - intOf s8).toNat)
              case atStart => exact ⟨k + 1, int_eq (by omega), by omega, by omega, Lib.hid (HMA.out.ext fun x y _ _ => wsR_start), hBa⟩
              case round =>
                obtain ⟨b, rfl, hb1, hb2, HMI, hBi⟩ := hrel
                clear HMA
                obtain ⟨xi, rfl⟩ := Plus.of_below hBi
                by_cases hlb : b < n
                · have hlb' : (b : Int) < n := by omega
                  obtain ⟨h, hh, hcy, hgl, hhl, hrow, hhB, hne⟩ := HMI.out.at_ han
                  have hca := hrow.cell hkn
                  have hcb := hrow.cell hlb
                  have hfb := hrow.frozen b
                  obtain ⟨h2, hh2, hcy2, _, hhl2, hrow2, _, _⟩ := HMI.out.at_ hkn
                  have hcb2 := hrow2.cell hlb
                  haveI : Old g (plus W0 xi) := ⟨hgl⟩
                  haveI : Old h (plus W0 xi) := ⟨hhl⟩
                  haveI : Old h2 (plus W0 xi) := ⟨hhl2⟩
                  rw [wsR_ac] at hca
                  rw [wsR_self] at hcb
                  rw [wsR_cb hak] at hcb2
                  clear hrow hrow2
                  cases hac : wsB l ps k a k
                  · rw [hac] at hca
                    have HMN := Lib.hid (HMI.out.ext (R2 := WsR l ps k (a + 1) 0) fun x y _ _ => wsR_skip hac)
                    clear hac
                    go_wp2_with fail
                    go_roundw
                    case rel => exact ⟨a + 1, int_eq (by omega), by omega, HMN, hBi⟩
                    case measure => simp [intOf]; omega
                  · rw [hac] at hca
                    obtain ⟨fr, hfr⟩ : ∃ v, wsB l ps k a b = v := ⟨_, rfl⟩
                    obtain ⟨fs, hfs⟩ : ∃ v, wsB l ps k k b = v := ⟨_, rfl⟩
                    have HNX := Lib.hid (show ∀ v, v = (fr || fs) → ∀ V, Plus (plus W0 xi) V → Mx (V.setCell ⟨h, b, none⟩ (.bool v)) W0.heap.size g n (WsR l ps k a (b + 1)) hs ∧ Below W0.heap.size W0 (V.setCell ⟨h, b, none⟩ (.bool v)) from fun v hv V hV => ⟨((HMI.out.plus hV).set (v := v) han hlb hh.out).ext fun x y _ _ => wsR_next hak (by omega) hac (by rw [hv, hfr, hfs]) x y, (hBi.trans (hV.below.mono (by have := hBi.size; omega))).setCell (p := ⟨h, b, none⟩) hhB (.bool v)⟩)
                    rw [hfr] at hcb
                    rw [hfs] at hcb2
                    clear hac hfr hfs
                    go_upto_region 18 with fail
                    cases fr
                    · go_region
                      all_goals go_wp2_with fail
                      all_goals first
                        | exact ⟨⟨b + 1, int_eq (by omega), by omega, by omega, Lib.hid (HNX.out _ rfl _ (Plus.refl _)).1, (HNX.out _ rfl _ (Plus.refl _)).2⟩, by simp [intOf]; omega⟩
                        | exact ⟨⟨b + 1, int_eq (by omega), by omega, by omega, Lib.hid ((HNX.out _ rfl _ (Plus.refl _)).1.plus (Plus.drew (Plus.refl _))), (HNX.out _ rfl _ (Plus.refl _)).2.drew⟩, by simp [intOf]; omega⟩
                    · go_region
                      all_goals go_wp2_with fail
                      all_goals first
                        | exact ⟨⟨b + 1, int_eq (by omega), by omega, by omega, Lib.hid (HNX.out _ rfl _ (Plus.refl _)).1, (HNX.out _ rfl _ (Plus.refl _)).2⟩, by simp [intOf]; omega⟩
                        | exact ⟨⟨b + 1, int_eq (by omega), by omega, by omega, Lib.hid ((HNX.out _ rfl _ (Plus.refl _)).1.plus (Plus.drew (Plus.refl _))), (HNX.out _ rfl _ (Plus.refl _)).2.drew⟩, by simp [intOf]; omega⟩
                · obtain rfl : n = b := by omega
                  have HMN := Lib.hid (HMI.out.ext (R2 := WsR l ps k (a + 1) 0) fun x y _ hy => wsR_row hy)
                  go_wp2_with fail
                  go_roundw
                  case rel => exact ⟨a + 1, int_eq (by omega), by omega, HMN, hBi⟩
                  case measure => simp [intOf]; omega
            · obtain rfl : k = a := by omega
              have HMN := Lib.hid (HMA.out.ext (R2 := wsB l ps (k + 1)) fun x y _ _ => wsR_end.trans wsR_zero)
              go_wp2_with fail
              go_roundw
              case rel => exact ⟨k + 1, int_eq (by omega), by omega, HMN, hBa⟩
              case measure => simp [intOf]; omega
        · obtain rfl : n = k := by omega
          go_wp2_with fail
          go_returns
          exact ⟨g, hs, rfl, (HMK.out.base hzw).ext fun x y _ hy => ws_bef HMM.out HLN.out hy, hP0.trans (Plus.is xk)⟩
set_option maxRecDepth 100000 in
set_option maxHeartbeats 4000000 in
theorem rbefore_f {l : List Ev} {ps : List Pr} {A B : Option Addr} {n c m d : Nat} (w : World) (H : Lg w l ps A n c B m d) (HM0 : Hid (MayR l ps false)) (HSM : Hid (SmL l)) : Calls Tryd.prog 19 #[.agg #[.slice A n c, .slice B m d]] w fun e w' => e = .returned (.slice none 0 0) ∧ Plus w w' := by
  have HLG := Lib.hid H
  clear H
  go_enter Tryd.func19, Tryd.ntmps19
  go_wp2_with (first | (go_at_call 17; (with_reducible refine (rsync_f _ (HLG.out.plus (by repeat' (first | exact Plus.refl _ | refine Plus.alloc ?_ _ | refine Plus.plus ?_ _ | refine Plus.drew ?_ | refine Plus.drewN ?_ _))) HM0 HSM).mono ?_); rintro e xw ⟨rfl, ⟨x1, rfl⟩⟩))
  obtain ⟨W0, hW0⟩ : ∃ W0, w.alloc (.cells #[.slice A n c, .slice B m d] 30) = W0 := ⟨_, rfl⟩
  have hBX : Bt 30 W0 w.heap.size (.slice A n c) (.slice B m d) := by rw [← hW0]; exact (bt_new w _ _ _ rfl)
  have hP0 : Plus w W0 := by rw [← hW0]; exact (by repeat' (first | exact Plus.refl _ | refine Plus.alloc ?_ _ | refine Plus.plus ?_ _ | refine Plus.drew ?_ | refine Plus.drewN ?_ _))
  rw [hW0]
  clear hBX hW0
  go_loopw [4] (fun s4 wr => s4 = .int .i64 0 ∧ Plus W0 wr) (fun _ _ => 0)
  case atStart => exact ⟨rfl, Plus.is x1⟩
  case round =>
    obtain ⟨rfl, ⟨x2, rfl⟩⟩ := hrel
    go_wp2_with fail
    go_loopw [6] (fun s8 wr => s8 = .int .i64 0 ∧ Plus W0 wr) (fun _ _ => 0)
    case atStart => exact ⟨rfl, Plus.is x2⟩
    case round =>
      obtain ⟨rfl, ⟨x3, rfl⟩⟩ := hrel
      go_wp2_with fail
      go_returns
      exact ⟨rfl, hP0.trans (Plus.is x3)⟩
end

section
open Go.RowKit


set_option maxRecDepth 100000 in
set_option maxHeartbeats 4000000 in
theorem rhas_c {R : Nat → Nat → Bool} {B g n : Nat} {hs : List Nat} {a b : Int} {r : Bool} (w : World) (H : Mx w B g n R hs) (_ : n ≤ 1000) (hr : hasR n R a b = r) : Calls Tryd.prog 45 #[.slice (some ⟨g, 0, none⟩) n n, .int .i64 a, .int .i64 b] w fun e w' => e = .returned (.bool r) ∧ w' = w := by
  subst hr
  rcases Int.lt_or_le a 0 with k1 | k1
  · have e : hasR n R a b = false := by
      simp [hasR, isE]
      omega
    rw [e]
    clear e
    go_enter Tryd.func45, Tryd.ntmps45
    go_wp2_with fail
    go_returns
    exact ⟨rfl, rfl⟩
  rcases Int.lt_or_le a n with k2 | k2
  rotate_left
  · have e : hasR n R a b = false := by
      simp [hasR, isE]
      omega
    rw [e]
    clear e
    go_enter Tryd.func45, Tryd.ntmps45
    go_wp2_with fail
    go_returns
    exact ⟨rfl, rfl⟩
  rcases Int.lt_or_le b 0 with k3 | k3
  · have e : hasR n R a b = false := by
      simp [hasR, isE]
      omega
    rw [e]
    clear e
    go_enter Tryd.func45, Tryd.ntmps45
    go_wp2_with fail
    go_returns
    exact ⟨rfl, rfl⟩
  rcases Int.lt_or_le b n with k4 | k4
  rotate_left
  · have e : hasR n R a b = false := by
      simp [hasR, isE]
      omega
    rw [e]
    clear e
    go_enter Tryd.func45, Tryd.ntmps45
    go_wp2_with fail
    go_returns
    exact ⟨rfl, rfl⟩
  obtain ⟨x, rfl⟩ := Int.eq_ofNat_of_zero_le k1
  obtain ⟨y, rfl⟩ := Int.eq_ofNat_of_zero_le k3
  have hx : x < n := by omega
  have hy : y < n := by omega
  obtain ⟨h, _, hcy, hgl, hhl, hrow, _, _⟩ := H.at_ hx
  have hcb := hrow.cell hy
  have e : hasR n R x y = R x y := by
    unfold hasR isE
    rw [decide_eq_true (by omega : 0 ≤ (x : Int) ∧ (x : Int) < n), decide_eq_true (by omega : 0 ≤ (y : Int) ∧ (y : Int) < n)]
    rfl
  rw [e]
  clear hrow e H
  go_enter Tryd.func45, Tryd.ntmps45
  go_wp2_with fail
  go_returns
  exact ⟨rfl, rfl⟩
set_option maxRecDepth 100000 in
set_option maxHeartbeats 4000000 in
theorem rhas_0 {R : Nat → Nat → Bool} {a b : Int} {r : Bool} (w : World) (hr : hasR 0 R a b = r) : Calls Tryd.prog 45 #[.slice none 0 0, .int .i64 a, .int .i64 b] w fun e w' => e = .returned (.bool r) ∧ w' = w := by
  subst hr
  have e : hasR 0 R a b = false := by
    simp [hasR, isE]
    omega
  rw [e]
  clear e
  rcases Int.lt_or_le a 0 with k1 | k1
  · go_enter Tryd.func45, Tryd.ntmps45
    go_wp2_with fail
    go_returns
    exact ⟨rfl, rfl⟩
  · go_enter Tryd.func45, Tryd.ntmps45
    go_wp2_with fail
    go_returns
    exact ⟨rfl, rfl⟩
/-- The pairs of a relation over places below N, of the first n rows. -/
def prN (R : Nat → Nat → Bool) (N n : Nat) : List (Nat × Nat) := (List.range n).flatMap fun a => (mem (R a) N).map fun b => (a, b)
theorem prN_succ (R : Nat → Nat → Bool) (N n : Nat) : prN R N (n + 1) = prN R N n ++ (mem (R n) N).map fun b => (n, b) := by
  unfold prN
  rw [List.range_succ, List.flatMap_append]
  simp
theorem prN_len (R : Nat → Nat → Bool) (N : Nat) : ∀ n, (prN R N n).length ≤ n * N
  | 0 => Nat.zero_le _
  | n + 1 => by
    rw [prN_succ, List.length_append, List.length_map, Nat.add_mul, Nat.one_mul]
    exact Nat.add_le_add (prN_len R N n) (mem_len _ _)
theorem prN_prs {R : Nat → Nat → Bool} {K N n : Nat} (hN : N ≤ 64 * K) (h : ∀ a b, R a b = true → b < N) : prs R K n = prN R N n := by
  unfold prs prN
  congr 1
  funext a
  obtain ⟨d, hd⟩ : ∃ d, 64 * K = N + d := ⟨64 * K - N, by omega⟩
  rw [hd, mem_gap _ _ d fun j _ => by
    cases q : R a (N + j)
    · rfl
    · exact absurd (h a _ q) (by omega)]
/-- Up to b in row a. -/
def prT (R : Nat → Nat → Bool) (n a b : Nat) : List Pr := (prN R n a ++ (mem (R a) b).map fun y => (a, y)).map toPr
theorem prT_len {R : Nat → Nat → Bool} {n a b : Nat} (ha : a < n) (hb : b ≤ n) (hn : n ≤ 1000) : (prT R n a b).length ≤ 1000000 := by
  unfold prT
  rw [List.length_map, List.length_append, List.length_map]
  have q1 := prN_len R n a
  have q2 := mem_len (R a) b
  have q3 : (a + 1) * n ≤ 1000 * 1000 := Nat.mul_le_mul (by omega) hn
  rw [Nat.add_mul, Nat.one_mul] at q3
  omega
theorem prT_no {R : Nat → Nat → Bool} {n a b : Nat} (h : R a b = false) : prT R n a b = prT R n a (b + 1) := by
  unfold prT
  rw [mem_succ, h]
  simp
theorem prT_yes {R : Nat → Nat → Bool} {n a b : Nat} (h : R a b = true) : prT R n a b ++ [((a : Int), (b : Int))] = prT R n a (b + 1) := by
  unfold prT
  rw [mem_succ, h]
  simp [toPr]
theorem prT_row {R : Nat → Nat → Bool} {n a : Nat} : prT R n a n = (prN R n (a + 1)).map toPr := by
  unfold prT
  rw [prN_succ]
theorem prT_zero {R : Nat → Nat → Bool} {n a : Nat} : (prN R n a).map toPr = prT R n a 0 := by
  unfold prT
  simp [mem]
set_option maxRecDepth 100000 in
set_option maxHeartbeats 4000000 in
theorem rlist_c {R : Nat → Nat → Bool} {B g n : Nat} {hs : List Nat} (w : World) (H : Mx w B g n R hs) (hn : n ≤ 1000) : Calls Tryd.prog 46 #[.slice (some ⟨g, 0, none⟩) n n] w (RetPs ((prN R n n).map toPr) w) := by
  obtain ⟨j0, hj, hj0, hj1, hj2⟩ := info_parts infoPr
  obtain ⟨Q, hQ⟩ : ∃ Q, (prN R n n).map toPr = Q := ⟨_, rfl⟩
  rw [hQ]
  have HQQ := Lib.hid hQ
  clear hQ
  have HM := Lib.hid H
  have hgl := H.top.lt
  haveI : Old g w := ⟨hgl⟩
  clear H
  go_enter Tryd.func46, Tryd.ntmps46
  go_wp2_with fail
  go_loopw [3, 4] (fun s3 s4 wr => ∃ (a : Nat) (qs : List Pr), s4 = .int .i64 a ∧ a ≤ n ∧ Hid (qs = (prN R n a).map toPr) ∧ wr.ownsRow w.heap.size 43 2 s3 qs.length (rowP qs) ∧ Below w.heap.size w wr) (fun _ s4 _ => ((n : Int) - intOf s4).toNat)
  case atStart => exact ⟨0, [], rfl, Nat.zero_le _, Lib.hid rfl, World.ownsRow_nil _ _ _ _, Below.refl _ _⟩
  case round =>
    obtain ⟨a, qs, rfl, ha, HQ, hO, hB⟩ := hrel
    have HO := Lib.hid hO
    clear hO
    obtain ⟨x0, rfl⟩ := Plus.of_below hB
    by_cases hlt : a < n
    · have hlt' : (a : Int) < n := by omega
      go_wp2_with fail
      go_loopw [3, 5] (fun s3 s5 wr => ∃ (b : Nat) (qs : List Pr), s5 = .int .i64 b ∧ b ≤ n ∧ Hid (qs = prT R n a b) ∧ wr.ownsRow w.heap.size 43 2 s3 qs.length (rowP qs) ∧ Below w.heap.size w wr) (fun _ s5 _ => ((n : Int) - intOf s5).toNat)
      case atStart => exact ⟨0, qs, rfl, Nat.zero_le _, Lib.hid (by rw [HQ.out]; exact prT_zero), HO.out, hB⟩
      case round =>
        clear HQ HO hB
        obtain ⟨b, qs, rfl, hb, HQ, hO, hB⟩ := hrel
        have HO := Lib.hid hO
        clear hO
        obtain ⟨xi, rfl⟩ := Plus.of_below hB
        by_cases hlb : b < n
        · have hlb' : (b : Int) < n := by omega
          have hql : qs.length ≤ 1000000 := by rw [HQ.out]; exact prT_len hlt hb hn
          obtain ⟨h, _, hcy, hgl, hhl, hrow, _, _⟩ := (HM.out.plus (Plus.is (w := w) xi)).at_ hlt
          have hcb := hrow.cell hlb
          haveI : Old g (plus w xi) := ⟨hgl⟩
          haveI : Old h (plus w xi) := ⟨hhl⟩
          clear hrow
          cases hfr : R a b
          · rw [hfr] at hcb
            have HQ2 := Lib.hid (HQ.out.trans (prT_no hfr))
            clear hfr
            go_wp2_with fail
            go_roundw
            case rel => exact ⟨b + 1, qs, int_eq (by omega), by omega, HQ2, HO.out, hB⟩
            case measure => simp [intOf]; omega
          · rw [hfr] at hcb
            have HQ2 := Lib.hid (show qs ++ [((a : Int), (b : Int))] = prT R n a (b + 1) by rw [HQ.out]; exact prT_yes hfr)
            have hBs := hB.size
            clear hfr
            go_wp2_with (at_builtin; refine wpList_append_own _ rfl _ _ 23 rfl w.heap.size 43 j0 (.agg #[.int .i64 0, .int .i64 0]) 2 16 Tryd.underlying23 hj hj0 hj1 hj2 rfl (by decide) _ _ _ rfl (own_plus HO.out (by repeat' (first | exact Plus.refl _ | refine Plus.alloc ?_ _ | refine Plus.plus ?_ _ | refine Plus.drew ?_ | refine Plus.drewN ?_ _))) _ 1 1 (prL ((a : Int), (b : Int))) rfl rfl (news_at' _ _ _ _ (by simp [go_sem])) (one_pr _) (by unfold maxLen; omega) (by omega) (by simp [go_sem]; omega) ?_; intro v3 w1 hown1 hgr1 _; have HW2 := Lib.hid hown1; have HG2 := Lib.hid hgr1; clear hown1 hgr1)
            go_roundw
            case rel => exact ⟨b + 1, qs ++ [((a : Int), (b : Int))], int_eq (by omega), by omega, HQ2, by rw [rowP_snoc, List.length_append]; exact HW2.out, (Below.grown (hB.alloc hBs _) HG2.out (by simp [go_sem]; omega) (fun j hj => own_ge HO.out j hj))⟩
            case measure => simp [intOf]; omega
        · obtain rfl : n = b := by omega
          have HQ2 := Lib.hid (HQ.out.trans prT_row)
          go_wp2_with fail
          go_roundw
          case rel => exact ⟨a + 1, qs, int_eq (by omega), by omega, HQ2, HO.out, hB⟩
          case measure => simp [intOf]; omega
    · obtain rfl : n = a := by omega
      obtain ⟨D, c, rfl⟩ := own_form HO.out
      go_wp2_with fail
      go_returns
      have e := HQ.out.trans HQQ.out
      rw [← e]
      exact ⟨D, c, rfl, HO.out, Plus.of_below hB⟩
set_option maxRecDepth 100000 in
set_option maxHeartbeats 4000000 in
theorem rlist_0 (w : World) : Calls Tryd.prog 46 #[.slice none 0 0] w (RetPs [] w) := by
  go_enter Tryd.func46, Tryd.ntmps46
  go_wp2_with fail
  go_loopw [3, 4] (fun s3 s4 wr => s3 = .slice none 0 0 ∧ s4 = .int .i64 0 ∧ wr = w) (fun _ _ _ => 0)
  case atStart => exact ⟨rfl, rfl, rfl⟩
  case round =>
    obtain ⟨rfl, rfl, hw⟩ := hrel
    rw [hw]
    clear hw
    go_wp2_with fail
    go_returns
    exact ⟨none, 0, rfl, World.ownsRow_nil _ _ _ _, Plus.refl _⟩
end

section
open Go.RowKit


theorem pa_ownR {w : World} {B c : Nat} {V : Option Addr} {qs : List Pr} {k : Nat} (hk : qs.length = k) (h : w.ownsRow B 43 2 (.slice V qs.length c) qs.length (rowP qs)) : Pa w V qs k c := by
  subst hk
  exact pa_of_own h
set_option maxRecDepth 100000 in
set_option maxHeartbeats 4000000 in
theorem sameR_c {N p L : Nat} {R : Nat → Nat → Bool} {A : Option Addr} {qs : List Pr} {z : Int} (w : World)
    (HLn : Hid (∀ w', Plus w w' → Calls Tryd.prog 42 #[.pointer (some ⟨p, 0, none⟩)] w' fun e w2 => e = .returned (.int .i64 N) ∧ w2 = w'))
    (H1 : Hid (∀ w', Plus w w' → ∀ (a b : Int) r, hasR N R a b = r → Calls Tryd.prog 21 #[.pointer (some ⟨p, 0, none⟩), .int .i64 a, .int .i64 b] w' fun e w2 => e = .returned (.bool r) ∧ w2 = w'))
    (H2 : Hid (∀ w', Plus w w' → ∀ (a b : Int) r, hasR N R a b = r → Calls Tryd.prog 45 #[.slice A N N, .int .i64 a, .int .i64 b] w' fun e w2 => e = .returned (.bool r) ∧ w2 = w'))
    (L1 : Hid (∀ w', Plus w w' → Calls Tryd.prog 43 #[.pointer (some ⟨p, 0, none⟩)] w' (RetPs qs w')))
    (L2 : Hid (∀ w', Plus w w' → Calls Tryd.prog 46 #[.slice A N N] w' (RetPs qs w')))
    (HQL : Hid (qs.length = L)) (hq : L ≤ 64000000) (hN : N ≤ 1000) :
    Calls Tryd.prog 13 #[.pointer (some ⟨p, 0, none⟩), .slice A N N, .int .i64 z] w fun e w' => e = .returned (.bool true) ∧ Plus w w' := by
  go_enter Tryd.func13, Tryd.ntmps13
  go_wp2_with (go_at_call 42; (with_reducible refine (HLn.out _ (by repeat' (first | exact Plus.refl _ | refine Plus.alloc ?_ _ | refine Plus.plus ?_ _ | refine Plus.drew ?_ | refine Plus.drewN ?_ _))).mono ?_); rintro e w2 ⟨rfl, hw2⟩; rw [hw2]; clear hw2 w2)
  go_loopw [7] (fun s7 wr => ∃ a : Int, s7 = .int .i64 a ∧ -1 ≤ a ∧ a ≤ N + 1 ∧ Plus w wr) (fun s7 _ => ((N : Int) + 1 - intOf s7).toNat)
  case atStart => exact ⟨-1, rfl, by omega, by omega, (by repeat' (first | exact Plus.refl _ | refine Plus.alloc ?_ _ | refine Plus.plus ?_ _ | refine Plus.drew ?_ | refine Plus.drewN ?_ _))⟩
  case round =>
    obtain ⟨a, rfl, ha1, ha2, ⟨x0, rfl⟩⟩ := hrel
    by_cases hlt : a ≤ N
    · go_wp2_with fail
      go_loopw [8] (fun s8 wr => ∃ b : Int, s8 = .int .i64 b ∧ -1 ≤ b ∧ b ≤ N + 1 ∧ Plus w wr) (fun s8 _ => ((N : Int) + 1 - intOf s8).toNat)
      case atStart => exact ⟨-1, rfl, by omega, by omega, (by repeat' (first | exact Plus.refl _ | refine Plus.alloc ?_ _ | refine Plus.plus ?_ _ | refine Plus.drew ?_ | refine Plus.drewN ?_ _))⟩
      case round =>
        obtain ⟨b, rfl, hb1, hb2, ⟨xi, rfl⟩⟩ := hrel
        by_cases hlb : b ≤ N
        · obtain ⟨v, hv⟩ : ∃ v, hasR N R a b = v := ⟨_, rfl⟩
          have HV := Lib.hid hv
          have HPX := Plus.is (w := w) xi
          clear hv
          cases v
          · go_wp2_with (first | (go_at_call 21; (with_reducible refine (H1.out _ (HPX.trans (by repeat' (first | exact Plus.refl _ | refine Plus.alloc ?_ _ | refine Plus.plus ?_ _ | refine Plus.drew ?_ | refine Plus.drewN ?_ _))) a b _ HV.out).mono ?_); rintro e w2 ⟨rfl, hw2⟩; rw [hw2]; clear hw2 w2) | (go_at_call 45; (with_reducible refine (H2.out _ (HPX.trans (by repeat' (first | exact Plus.refl _ | refine Plus.alloc ?_ _ | refine Plus.plus ?_ _ | refine Plus.drew ?_ | refine Plus.drewN ?_ _))) a b _ HV.out).mono ?_); rintro e w2 ⟨rfl, hw2⟩; rw [hw2]; clear hw2 w2))
            go_roundw
            case rel => exact ⟨b + 1, int_eq (by omega), by omega, by omega, (by repeat' (first | exact Plus.refl _ | refine Plus.alloc ?_ _ | refine Plus.plus ?_ _ | refine Plus.drew ?_ | refine Plus.drewN ?_ _))⟩
            case measure => simp [intOf]; omega
          · go_wp2_with (first | (go_at_call 21; (with_reducible refine (H1.out _ (HPX.trans (by repeat' (first | exact Plus.refl _ | refine Plus.alloc ?_ _ | refine Plus.plus ?_ _ | refine Plus.drew ?_ | refine Plus.drewN ?_ _))) a b _ HV.out).mono ?_); rintro e w2 ⟨rfl, hw2⟩; rw [hw2]; clear hw2 w2) | (go_at_call 45; (with_reducible refine (H2.out _ (HPX.trans (by repeat' (first | exact Plus.refl _ | refine Plus.alloc ?_ _ | refine Plus.plus ?_ _ | refine Plus.drew ?_ | refine Plus.drewN ?_ _))) a b _ HV.out).mono ?_); rintro e w2 ⟨rfl, hw2⟩; rw [hw2]; clear hw2 w2))
            go_roundw
            case rel => exact ⟨b + 1, int_eq (by omega), by omega, by omega, (by repeat' (first | exact Plus.refl _ | refine Plus.alloc ?_ _ | refine Plus.plus ?_ _ | refine Plus.drew ?_ | refine Plus.drewN ?_ _))⟩
            case measure => simp [intOf]; omega
        · go_wp2_with fail
          go_roundw
          case rel => exact ⟨a + 1, int_eq (by omega), by omega, by omega, (by repeat' (first | exact Plus.refl _ | refine Plus.alloc ?_ _ | refine Plus.plus ?_ _ | refine Plus.drew ?_ | refine Plus.drewN ?_ _))⟩
          case measure => simp [intOf]; omega
    · go_wp2_with (first | (go_at_call 43; (with_reducible refine (L1.out _ (by repeat' (first | exact Plus.refl _ | refine Plus.alloc ?_ _ | refine Plus.plus ?_ _ | refine Plus.drew ?_ | refine Plus.drewN ?_ _))).mono ?_); rintro e xw ⟨D1, cD1, rfl, hO1, ⟨x1, rfl⟩⟩; have HO1 := Lib.hid hO1; clear hO1; rw [HQL.out]) | (go_at_call 46; (with_reducible refine (L2.out _ (by repeat' (first | exact Plus.refl _ | refine Plus.alloc ?_ _ | refine Plus.plus ?_ _ | refine Plus.drew ?_ | refine Plus.drewN ?_ _))).mono ?_); rintro e xw ⟨D2, cD2, rfl, hO2, ⟨x2, rfl⟩⟩; have HO2 := Lib.hid hO2; clear hO2; rw [HQL.out]))
      obtain ⟨W, hW⟩ : ∃ W, plus (plus (plus w x0) x1) x2 = W := ⟨_, rfl⟩
      have hPW : Plus w W := by rw [← hW]; exact (by repeat' (first | exact Plus.refl _ | refine Plus.alloc ?_ _ | refine Plus.plus ?_ _ | refine Plus.drew ?_ | refine Plus.drewN ?_ _))
      have P1 : Pa W D1 qs L cD1 := by
        rw [← hW]
        exact pa_ownR HQL.out (own_plus (v := .slice D1 qs.length cD1) HO1.out (Plus.is x2))
      have P2 : Pa W D2 qs L cD2 := by
        rw [← hW]
        exact pa_ownR HQL.out HO2.out
      rw [hW]
      clear hW
      have hc1 := P1.cap
      have hm1 := P1.max
      have hc2 := P2.cap
      have hm2 := P2.max
      have HP1 := Lib.hid P1
      have HP2 := Lib.hid P2
      have HPW := Lib.hid hPW
      clear P1 P2 hPW HO1 HO2
      go_wp2_with fail
      go_loopw [11] (fun s11 wr => ∃ i : Nat, s11 = .int .i64 i ∧ i ≤ L ∧ Plus W wr) (fun s11 _ => ((L : Int) - intOf s11).toNat)
      case atStart => exact ⟨0, rfl, Nat.zero_le _, Plus.refl _⟩
      case round =>
        obtain ⟨i, rfl, hi, ⟨xi, rfl⟩⟩ := hrel
        by_cases hil : i < L
        · have hil' : (i : Int) < L := by omega
          obtain ⟨g1, o1, rfl, hg1, hat1⟩ := (HP1.out.rd.plus (Plus.is xi)) (by rw [← HP1.out.len]; omega)
          obtain ⟨g2, o2, rfl, hg2, hat2⟩ := (HP2.out.rd.plus (Plus.is xi)) (by rw [← HP2.out.len]; omega)
          obtain ⟨a0, a1⟩ := hat1 i (by rw [← HP1.out.len]; exact hil)
          obtain ⟨b0, b1⟩ := hat2 i (by rw [← HP2.out.len]; exact hil)
          obtain ⟨⟨x, y⟩, hu⟩ : ∃ u, qs.getD i (0, 0) = u := ⟨_, rfl⟩
          rw [hu] at a0 a1 b0 b1
          simp only at a0 a1 b0 b1
          have hadd1 := add_addr g1 o1 (i * 2)
          have hadd2 := add_addr g2 o2 (i * 2)
          haveI : Old g1 (plus W xi) := ⟨hg1⟩
          haveI : Old g2 (plus W xi) := ⟨hg2⟩
          clear hat1 hat2 hu
          go_upto_region 17 with fail
          refine wp_region_plus (by kernel_rfl) (by kernel_rfl) ?_
          repeat (go_big_quiet_step (fail))
          refine wpQuiet_nil ?_
          intro _ hw'
          obtain ⟨x7, rfl⟩ := hw'
          go_wp2_with fail
          go_roundw
          case rel => exact ⟨i + 1, int_eq (by omega), by omega, (by repeat' (first | exact Plus.refl _ | refine Plus.alloc ?_ _ | refine Plus.plus ?_ _ | refine Plus.drew ?_ | refine Plus.drewN ?_ _))⟩
          case measure => simp [intOf]; omega
        · obtain rfl : L = i := by omega
          obtain ⟨v, hv⟩ : ∃ v, hasR N R z 0 = v := ⟨_, rfl⟩
          have HV := Lib.hid hv
          have HPX := HPW.out.trans (Plus.is xi)
          clear hv
          cases v
          · go_wp2_with (first | (go_at_call 21; (with_reducible refine (H1.out _ (HPX.trans (by repeat' (first | exact Plus.refl _ | refine Plus.alloc ?_ _ | refine Plus.plus ?_ _ | refine Plus.drew ?_ | refine Plus.drewN ?_ _))) z 0 _ HV.out).mono ?_); rintro e w2 ⟨rfl, hw2⟩; rw [hw2]; clear hw2 w2) | (go_at_call 45; (with_reducible refine (H2.out _ (HPX.trans (by repeat' (first | exact Plus.refl _ | refine Plus.alloc ?_ _ | refine Plus.plus ?_ _ | refine Plus.drew ?_ | refine Plus.drewN ?_ _))) z 0 _ HV.out).mono ?_); rintro e w2 ⟨rfl, hw2⟩; rw [hw2]; clear hw2 w2))
            go_returns
            exact ⟨rfl, HPX.trans (by repeat' (first | exact Plus.refl _ | refine Plus.alloc ?_ _ | refine Plus.plus ?_ _ | refine Plus.drew ?_ | refine Plus.drewN ?_ _))⟩
          · go_wp2_with (first | (go_at_call 21; (with_reducible refine (H1.out _ (HPX.trans (by repeat' (first | exact Plus.refl _ | refine Plus.alloc ?_ _ | refine Plus.plus ?_ _ | refine Plus.drew ?_ | refine Plus.drewN ?_ _))) z 0 _ HV.out).mono ?_); rintro e w2 ⟨rfl, hw2⟩; rw [hw2]; clear hw2 w2) | (go_at_call 45; (with_reducible refine (H2.out _ (HPX.trans (by repeat' (first | exact Plus.refl _ | refine Plus.alloc ?_ _ | refine Plus.plus ?_ _ | refine Plus.drew ?_ | refine Plus.drewN ?_ _))) z 0 _ HV.out).mono ?_); rintro e w2 ⟨rfl, hw2⟩; rw [hw2]; clear hw2 w2))
            go_returns
            exact ⟨rfl, HPX.trans (by repeat' (first | exact Plus.refl _ | refine Plus.alloc ?_ _ | refine Plus.plus ?_ _ | refine Plus.drew ?_ | refine Plus.drewN ?_ _))⟩
end

section
open Go.RowKit


/-- A slice that is the document's relation R, as its functions tell. -/
def DocR (W : World) (A : Option Addr) (N : Nat) (R : Nat → Nat → Bool) : Prop := (∀ w', Plus W w' → ∀ (a b : Int) r, hasR N R a b = r → Calls Tryd.prog 45 #[.slice A N N, .int .i64 a, .int .i64 b] w' fun e w2 => e = .returned (.bool r) ∧ w2 = w') ∧ ∀ w', Plus W w' → Calls Tryd.prog 46 #[.slice A N N] w' (RetPs ((prN R N N).map toPr) w')
theorem DocR.plus {W W' : World} {A : Option Addr} {N : Nat} {R : Nat → Nat → Bool} (h : DocR W A N R) (hp : Plus W W') : DocR W' A N R := ⟨fun w' hp' => h.1 w' (hp.trans hp'), fun w' hp' => h.2 w' (hp.trans hp')⟩
def RetDoc (N : Nat) (R : Nat → Nat → Bool) (w : World) (e : Ending) (w' : World) : Prop := ∃ A, e = .returned (.slice A N N) ∧ DocR w' A N R ∧ Plus w w'
theorem docR_mx {R : Nat → Nat → Bool} {N : Nat} {w : World} {e : Ending} {w' : World} (hN : N ≤ 1000) (h : RetMx N R w e w') : RetDoc N R w e w' := by
  obtain ⟨g, hs, rfl, hM, hp⟩ := h
  exact ⟨_, rfl, ⟨fun w2 hp2 a b r hr => rhas_c w2 (hM.plus hp2) hN hr, fun w2 hp2 => rlist_c w2 (hM.plus hp2) hN⟩, hp⟩
theorem docR_0 {R : Nat → Nat → Bool} {w : World} {e : Ending} {w' : World} (h : e = .returned (.slice none 0 0) ∧ Plus w w') : RetDoc 0 R w e w' := by
  obtain ⟨rfl, hp⟩ := h
  exact ⟨none, rfl, ⟨fun w2 hp2 a b r hr => rhas_0 w2 hr, fun w2 hp2 => rlist_0 w2⟩, hp⟩
theorem same_d {N K p B : Nat} {R : Nat → Nat → Bool} {A : Option Addr} {hs : List Nat} {z : Int} (w : World) (hL : Lai w) (H : Rl w B p N K R hs) (HD : DocR w A N R) (hb : N ≤ 64 * K ∧ K ≤ 1000 ∧ N ≤ 1000) (hE : ∀ a b, R a b = true → b < N) : Calls Tryd.prog 13 #[.pointer (some ⟨p, 0, none⟩), .slice A N N, .int .i64 z] w fun e w' => e = .returned (.bool true) ∧ Plus w w' := by
  refine sameR_c (R := R) (qs := (prN R N N).map toPr) w (Lib.hid fun w' hp => len_r w' (H.plus hp)) (Lib.hid fun w' hp a b r hr => has_r w' (H.plus hp) hb.1 (by omega) hr) (Lib.hid HD.1) (Lib.hid fun w' hp => ?_) (Lib.hid HD.2) (Lib.hid rfl) ?_ hb.2.2
  · rw [← prN_prs hb.1 hE]
    exact list_c w' (hL.plus hp) (H.plus hp) hb.2.1 hb.2.2
  · rw [List.length_map]
    refine Nat.le_trans (prN_len R N N) ?_
    have q : N * N ≤ 1000 * 1000 := Nat.mul_le_mul hb.2.2 hb.2.2
    omega
end
end Go.Proofs.YtmfdlcicbiincaaDoor
