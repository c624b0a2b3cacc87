/- Coherent. -/
import Derived.WalkKit
import Derived.WalkSpells
import Derived.WalkLawsBesides
import Derived.Handy
import Derived.Deep.RegionHeld3
import Derived.Deep.DeepCutAuto
import Derived.Deep.QuietTactic
import Derived.BigQuiet
import Derived.Lib.Hide
import Derived.KernelRfl
import Derived.WalkMore
import Derived.Deep.LoopGhost
import Derived.IntWalk
import Derived.Deep.RegionLaw
import Derived.RangeFuncBox
import Derived.Test.YtmfdlcicbiincaaDoorNB
import Derived.Test.YtmfdlcicbiincaaDoorE17
namespace Go.Proofs.YtmfdlcicbiincaaDoor
open Go.RowKit


theorem ret_i {a b : Int} (h : a = b) : Ending.returned (.int .i64 a) = .returned (.int .i64 b) := by rw [h]
theorem has_p {B p n K : Nat} {R : Nat → Nat → Bool} {hs : List Nat} {W1 : World} (H : Rl W1 B p n K R hs) (hk : n ≤ 64 * K ∧ K ≤ 1000) (a b : Nat) (ha : a < n) (hb : b < n) (r : Bool) (hr : R a b = r) (w : World) (hp : Plus W1 w) : Calls Tryd.prog 21 #[.pointer (some ⟨p, 0, none⟩), .int .i64 a, .int .i64 b] w fun e w2 => e = .returned (.bool r) ∧ Plus w w2 := (has_t w (H.plus hp) hk.1 (by omega) ha hb hr).mono fun e w2 ⟨h1, h2⟩ => ⟨h1, by rw [h2]; exact Plus.refl _⟩
/-- A valid log's event. -/
theorem ev_ok {l : List Ev} {ps : List Pr} (h : MayP l ps) {b : Nat} (hb : b < l.length) : (l.getD b default).f.length ≤ 8 ∧ 0 ≤ (l.getD b default).a ∧ (l.getD b default).a ≤ 256 := by
  obtain ⟨_, q1, q2, q3⟩ := shp_f (h.2.2.2 b hb).1
  exact ⟨q1, q2, q3⟩
theorem shp_z {e : Ev} (h : shapedM e = true) : 0 ≤ e.z ∧ e.z ≤ 8 := by
  unfold shapedM at h
  simp only [Bool.and_eq_true] at h
  obtain ⟨_, h⟩ := h
  split at h
  · simp only [decide_eq_true_eq] at h
    rw [h]
    exact ⟨Int.le_refl _, by show (0 : Int) ≤ 8; omega⟩
  all_goals
    repeat' split at h
    all_goals first
      | (cases h; done)
      | (unfold rangedM at h; simp at h; omega)
theorem ev_z {l : List Ev} {ps : List Pr} (h : MayP l ps) {b : Nat} (hb : b < l.length) : 0 ≤ (l.getD b default).z ∧ (l.getD b default).z ≤ 8 := shp_z (h.2.2.2 b hb).1
set_option maxRecDepth 100000 in
set_option maxHeartbeats 16000000 in
theorem coherent_t {l : List Ev} {ps : List Pr} {A B : Option Addr} {n c m d : Nat} {K : Nat} {z : Int} (w : World) (hL : Lai w) (H : Lg w l ps A n c B m d) (HM0 : Hid (MayR l ps true)) (HMM : Hid (MayP l ps)) (HK : Hid (K = (n + 63) / 64)) (HZ : Hid (Fst n (CohP l (befB l ps)) z)) : Calls Tryd.prog 25 #[.agg #[.slice A n c, .slice B m d]] w fun e w' => e = .returned (.int .i64 z) ∧ Plus w w' := by
  have hn : n ≤ 1000 := by rw [H.len.1]; exact HMM.out.1
  have HLN := Lib.hid H.len.1
  have hkk : n ≤ 64 * K ∧ K ≤ 1000 := by rw [HK.out]; omega
  obtain ⟨rs, hrl, hes⟩ := H.ev
  have HES := Lib.hid hes
  have HRL := Lib.hid hrl
  have hcap := hes.cap
  have hmx := hes.max
  have HLG := Lib.hid H
  have HLA := Lib.hid hL
  clear hes hrl H hL
  go_enter Tryd.func25, Tryd.ntmps25
  go_wp2_with (first | (go_at_call 20; (with_reducible refine (may_s _ HM0 (HLG.out.plus (by repeat' (first | exact Plus.refl _ | refine Plus.alloc ?_ _ | refine Plus.plus ?_ _ | refine Plus.drew ?_ | refine Plus.drewN ?_ _)))).mono ?_); rintro e xw ⟨rfl, ⟨ym, rfl⟩⟩) | (go_at_call 18; (with_reducible refine (before_m _ (HLA.out.plus (by repeat' (first | exact Plus.refl _ | refine Plus.alloc ?_ _ | refine Plus.plus ?_ _ | refine Plus.drew ?_ | refine Plus.drewN ?_ _))) (HLG.out.plus (by repeat' (first | exact Plus.refl _ | refine Plus.alloc ?_ _ | refine Plus.plus ?_ _ | refine Plus.drew ?_ | refine Plus.drewN ?_ _))) HMM HK).mono ?_); rintro e xw ⟨p1, hs1, rfl, hR1, ⟨x2, rfl⟩⟩; have HR1 := Lib.hid hR1; clear hR1))
  obtain ⟨W1, hW1⟩ : ∃ W1, plus (plus (w.alloc (.cells #[.slice A n c, .slice B m d] 25)) ym) x2 = W1 := ⟨_, rfl⟩
  have hBX : Bx W1 w.heap.size (.slice A n c) (.slice B m d) := by rw [← hW1]; exact (bx_new w _ _).plus (by repeat' (first | exact Plus.refl _ | refine Plus.alloc ?_ _ | refine Plus.plus ?_ _ | refine Plus.drew ?_ | refine Plus.drewN ?_ _))
  have hP1 : Plus w W1 := by rw [← hW1]; exact (by repeat' (first | exact Plus.refl _ | refine Plus.alloc ?_ _ | refine Plus.plus ?_ _ | refine Plus.drew ?_ | refine Plus.drewN ?_ _))
  have hR1 := HR1.out
  first
    | rw [hW1] at hR1 ⊢
    | (have hW2 := hW1; rw [plus_plus] at hW2; rw [hW2] at hR1 ⊢)
  have HR1' := Lib.hid hR1
  have c0 := hBX.c0
  have hbl := hBX.lt
  clear hR1 HR1 hBX hW1
  go_loopw [17] (fun s17 wr => ∃ r : Nat, s17 = .int .i64 r ∧ r ≤ n ∧ Hid (∀ q, q < r → ¬ CohP l (befB l ps) q) ∧ Plus W1 wr) (fun s17 _ => ((n : Int) - intOf s17).toNat)
  case atStart => exact ⟨0, rfl, Nat.zero_le _, Lib.hid fun q h => absurd h (by omega), Plus.refl _⟩
  case round =>
    obtain ⟨r, rfl, hr, HNO, ⟨x0, rfl⟩⟩ := hrel
    by_cases hlt : r < n
    · have hlt' : (r : Int) < n := by omega
      obtain ⟨g, o, e1, rfl, hx1, hm1, hM1, q0, q1, q2, q3, q4, q5, q6, q7, q8, q9⟩ := (HES.out.plus (hP1.trans (Plus.is x0))).at_ hlt
      have u1 := getD_map (show r < rs.length by rw [← HES.out.len]; exact hlt) hx1
      rw [HRL.out] at u1
      have hb := ev_ok HMM.out (show r < l.length by rw [← HLN.out]; exact hlt)
      rw [u1] at hb
      have hadd1 := add_addr g o (r * 10)
      have lg1 : g < W1.heap.size := by
        obtain ⟨g2, o2, e, q, _⟩ := (HES.out.plus hP1).rd (by rw [← HES.out.len]; omega)
        injection e with e
        injection e with e _ _
        rw [e]
        exact q
      haveI : Old g W1 := ⟨lg1⟩
      haveI : Old w.heap.size W1 := ⟨hbl⟩
      obtain ⟨e1, R1, cr1, X1, cw1, F1, cf1⟩ := e1
      simp only at q0 q1 q2 q3 q4 q5 q6 q7 q8 q9 u1 hb
      have HU1 := Lib.hid u1
      have HM1 := Lib.hid hM1
      clear hx1 hm1 hM1 u1
      go_wp2_with fail
      have HF := Lib.hid (show Ar .i64 (plus W1 x0) F1 e1.f e1.f.length cf1 from HM1.out.ef)
      have hfc := HF.out.cap
      have hfm := HF.out.max
      go_loopw [25] (fun s25 wr => ∃ i : Nat, s25 = .int .i64 i ∧ i ≤ e1.f.length ∧ Hid (∀ q, q < i → ¬ CoiP l (befB l ps) r q) ∧ Plus ((plus W1 x0).alloc (.cells #[.int .i64 e1.g, .int .i64 e1.k, .bool e1.s, .bool e1.t, .int .i64 e1.b, .int .i64 e1.a, .int .i64 e1.z, .slice R1 e1.r.length cr1, .slice X1 e1.w.length cw1, .slice F1 e1.f.length cf1] 42)) wr) (fun s25 _ => ((e1.f.length : Int) - intOf s25).toNat)
      case atStart => exact ⟨0, rfl, Nat.zero_le _, Lib.hid fun q h => absurd h (by omega), Plus.refl _⟩
      case round =>
        obtain ⟨i, rfl, hi, HNI, ⟨xi, rfl⟩⟩ := hrel
        by_cases hil : i < e1.f.length
        · have hil' : (i : Int) < e1.f.length := by omega
          obtain ⟨fg, fo, rfl, hfg, hfat⟩ := (HF.out.plus (show Plus (plus W1 x0) (plus ((plus W1 x0).alloc (.cells #[.int .i64 e1.g, .int .i64 e1.k, .bool e1.s, .bool e1.t, .int .i64 e1.b, .int .i64 e1.a, .int .i64 e1.z, .slice R1 e1.r.length cr1, .slice X1 e1.w.length cw1, .slice F1 e1.f.length cf1] 42)) xi) from (by repeat' (first | exact Plus.refl _ | refine Plus.alloc ?_ _ | refine Plus.plus ?_ _ | refine Plus.drew ?_ | refine Plus.drewN ?_ _)))).rd.at_ hil
          have hcf := hfat i hil
          obtain ⟨fi, hfi⟩ : ∃ v, e1.f.getD i 0 = v := ⟨_, rfl⟩
          have hfr := from_lt HMM.out (show r < l.length by rw [← HLN.out]; exact hlt) (i := i) (by rw [HU1.out]; exact hil)
          rw [HU1.out, hfi] at hfr
          have HFA := Lib.hid (show frA l r i = fi by unfold frA; rw [HU1.out, hfi])
          rw [hfi] at hcf
          have haddf := add_addr fg fo i
          clear hfi hfat
          go_wp2_with fail
          go_step3
          go_wp2_with fail
          go_step3
          go_wp2_with fail
          obtain ⟨v0, hv0⟩ : ∃ v0 : Nat, fi + 1 = (v0 : Int) := ⟨(fi + 1).toNat, by omega⟩
          rw [hv0]
          go_loopw [8] (fun s8 wr => ∃ v : Nat, s8 = .int .i64 v ∧ v0 ≤ v ∧ (v ≤ r ∨ v = v0) ∧ Hid (∀ u, u < v → ¬ CovP l (befB l ps) r i u) ∧ Plus ((plus W1 x0).alloc (.cells #[.int .i64 e1.g, .int .i64 e1.k, .bool e1.s, .bool e1.t, .int .i64 e1.b, .int .i64 e1.a, .int .i64 e1.z, .slice R1 e1.r.length cr1, .slice X1 e1.w.length cw1, .slice (some ⟨fg, fo, none⟩) e1.f.length cf1] 42)) wr) (fun s8 _ => ((r : Int) - intOf s8).toNat)
          case atStart => exact ⟨v0, rfl, Nat.le_refl _, .inr rfl, Lib.hid fun u hu q => by have q1 := q.1; rw [HFA.out] at q1; omega, (by repeat' (first | exact Plus.refl _ | refine Plus.alloc ?_ _ | refine Plus.plus ?_ _ | refine Plus.drew ?_ | refine Plus.drewN ?_ _))⟩
          case round =>
            obtain ⟨v, rfl, hv1, hv2, HNV, ⟨xv, rfl⟩⟩ := hrel
            by_cases hvr : v < r
            · have hvr' : (v : Int) < r := by omega
              have hvn : v < n := by omega
              have hvn' : (v : Int) < n := by omega
              have hPv : Plus W1 (plus ((plus W1 x0).alloc (.cells #[.int .i64 e1.g, .int .i64 e1.k, .bool e1.s, .bool e1.t, .int .i64 e1.b, .int .i64 e1.a, .int .i64 e1.z, .slice R1 e1.r.length cr1, .slice X1 e1.w.length cw1, .slice (some ⟨fg, fo, none⟩) e1.f.length cf1] 42)) xv) := (by repeat' (first | exact Plus.refl _ | refine Plus.alloc ?_ _ | refine Plus.plus ?_ _ | refine Plus.drew ?_ | refine Plus.drewN ?_ _))
              obtain ⟨g', o', e2, hA, hx2, hm2, hM2, r0, r1, r2, r3, r4, r5, r6, r7, r8, r9⟩ := (HES.out.plus (hP1.trans hPv)).at_ hvn
              injection hA with hA
              injection hA with hg' ho' _
              subst hg' ho'
              have u2' := getD_map (show v < rs.length by rw [← HES.out.len]; exact hvn) hx2
              rw [HRL.out] at u2'
              have hb2 := ev_ok HMM.out (show v < l.length by rw [← HLN.out]; exact hvn)
              have hz2 := ev_z HMM.out (show v < l.length by rw [← HLN.out]; exact hvn)
              rw [u2'] at hb2 hz2
              have hadd2 := add_addr g o (v * 10)
              obtain ⟨e2, R2, cr2, X2, cw2, F2, cf2⟩ := e2
              simp only at r0 r1 r2 r3 r4 r5 r6 r7 r8 r9 u2' hb2 hz2
              have HU2 := Lib.hid u2'
              obtain ⟨c1, hc1⟩ : ∃ c1, wrAt e2 e1.b (e1.a + i) = c1 := ⟨_, rfl⟩
              obtain ⟨c2, hc2⟩ : ∃ c2, befB l ps v r = c2 := ⟨_, rfl⟩
              have HC1 := Lib.hid (show wrB e2.k e2.b e2.a e2.z e1.b (e1.a + i) = c1 from hc1)
              have HC2 := Lib.hid hc2
              have HQ := Lib.hid (has_p HR1'.out hkk v r hvn hlt c2 hc2)
              clear hc1 hc2 hx2 hm2 hM2 u2'
              have hnext : Hid (c1 = false ∨ c2 = false ∨ (fi ≠ -1 ∧ befB l ps fi.toNat v = false)) → Hid (∀ u, u < v + 1 → ¬ CovP l (befB l ps) r i u) := fun hh => Lib.hid fun u hu q => by
                by_cases e : u = v
                · subst e
                  obtain ⟨_, k1, k2, k3⟩ := q
                  rw [HU1.out, HU2.out] at k1
                  rw [HFA.out] at k3
                  rcases hh.out with h | h | ⟨h, h'⟩
                  · exact absurd (HC1.out.symm.trans k1) (by rw [h]; decide)
                  · rw [HC2.out, h] at k2
                    cases k2
                  · rcases k3 with k3 | k3
                    · exact h k3
                    · rw [h'] at k3
                      cases k3
                · exact HNV.out u (by omega) q
              have hret : Hid (c1 = true ∧ c2 = true ∧ (fi = -1 ∨ befB l ps fi.toNat v = true)) → z = (r : Int) := fun hh => HZ.out.hit hlt ⟨i, by rw [HU1.out]; exact hil, v, hvr, by rw [HFA.out]; omega, by rw [HU1.out, HU2.out]; exact HC1.out.trans hh.out.1, by rw [HC2.out]; exact hh.out.2.1, by rw [HFA.out]; exact hh.out.2.2⟩ HNO.out
              go_upto_region 13 with fail
              cases c1
              · have HNX := hnext (Lib.hid (.inl rfl))
                clear hnext hret
                refine wp_region_plus (by kernel_rfl) (by kernel_rfl) ?_
                repeat (go_big_quiet_step ((go_at_call 62; exact calls_plus (wrAt_n HC1 _ (by omega) (by omega)))))
                refine wpQuiet_nil ?_
                intro _ hw'
                obtain ⟨x7, rfl⟩ := hw'
                go_wp2_with fail
                go_roundw
                case rel => exact ⟨v + 1, int_eq (by omega), by omega, .inl (by omega), HNX, (by repeat' (first | exact Plus.refl _ | refine Plus.alloc ?_ _ | refine Plus.plus ?_ _ | refine Plus.drew ?_ | refine Plus.drewN ?_ _))⟩
                case measure => simp [intOf]; omega
              · cases c2
                · have HNX := hnext (Lib.hid (.inr (.inl rfl)))
                  clear hnext hret
                  refine wp_region_plus (by kernel_rfl) (by kernel_rfl) ?_
                  repeat (go_big_quiet_step (first | (go_at_call 62; exact calls_plus (wrAt_n HC1 _ (by omega) (by omega))) | (go_at_call 21; exact calls_plus (HQ.out _ (hPv.trans (Plus.is _))))))
                  refine wpQuiet_nil ?_
                  intro _ hw'
                  obtain ⟨x7, rfl⟩ := hw'
                  go_wp2_with fail
                  go_roundw
                  case rel => exact ⟨v + 1, int_eq (by omega), by omega, .inl (by omega), HNX, (by repeat' (first | exact Plus.refl _ | refine Plus.alloc ?_ _ | refine Plus.plus ?_ _ | refine Plus.drew ?_ | refine Plus.drewN ?_ _))⟩
                  case measure => simp [intOf]; omega
                · by_cases hf1 : fi = -1
                  · have HZR := Lib.hid (hret (Lib.hid ⟨rfl, rfl, .inl hf1⟩))
                    clear hnext hret
                    subst hf1
                    refine wp_region_plus (by kernel_rfl) (by kernel_rfl) ?_
                    repeat (go_big_quiet_step (first | (go_at_call 62; exact calls_plus (wrAt_n HC1 _ (by omega) (by omega))) | (go_at_call 21; exact calls_plus (HQ.out _ (hPv.trans (Plus.is _))))))
                    refine wpQuiet_nil ?_
                    intro _ hw'
                    obtain ⟨x7, rfl⟩ := hw'
                    go_wp2_with fail
                    go_returns
                    exact ⟨ret_i HZR.out.symm, hP1.trans (by repeat' (first | exact Plus.refl _ | refine Plus.alloc ?_ _ | refine Plus.plus ?_ _ | refine Plus.drew ?_ | refine Plus.drewN ?_ _))⟩
                  · obtain ⟨y, rfl⟩ : ∃ y : Nat, fi = (y : Int) := ⟨fi.toNat, by omega⟩
                    have hyn : y < n := by omega
                    obtain ⟨c3, hc3⟩ : ∃ c3, befB l ps y v = c3 := ⟨_, rfl⟩
                    have HQ3 := Lib.hid (has_p HR1'.out hkk y v hyn hvn c3 hc3)
                    cases c3
                    · have HNX := hnext (Lib.hid (.inr (.inr ⟨hf1, by rw [Int.toNat_natCast]; exact hc3⟩)))
                      clear hnext hret hc3
                      refine wp_region_plus (by kernel_rfl) (by kernel_rfl) ?_
                      repeat (go_big_quiet_step (first | (go_at_call 62; exact calls_plus (wrAt_n HC1 _ (by omega) (by omega))) | (go_at_call 21; exact calls_plus (HQ.out _ (hPv.trans (Plus.is _))))))
                      refine wpQuiet_nil ?_
                      intro _ hw'
                      obtain ⟨x7, rfl⟩ := hw'
                      go_wp2_with (go_at_call 21; (with_reducible refine (HQ3.out _ ((hPv.trans (Plus.is _)))).mono ?_); rintro e xw ⟨rfl, ⟨y3, rfl⟩⟩)
                      go_roundw
                      case rel => exact ⟨v + 1, int_eq (by omega), by omega, .inl (by omega), HNX, (by repeat' (first | exact Plus.refl _ | refine Plus.alloc ?_ _ | refine Plus.plus ?_ _ | refine Plus.drew ?_ | refine Plus.drewN ?_ _))⟩
                      case measure => simp [intOf]; omega
                    · have HZR := Lib.hid (hret (Lib.hid ⟨rfl, rfl, .inr (by rw [Int.toNat_natCast]; exact hc3)⟩))
                      clear hnext hret hc3
                      refine wp_region_plus (by kernel_rfl) (by kernel_rfl) ?_
                      repeat (go_big_quiet_step (first | (go_at_call 62; exact calls_plus (wrAt_n HC1 _ (by omega) (by omega))) | (go_at_call 21; exact calls_plus (HQ.out _ (hPv.trans (Plus.is _))))))
                      refine wpQuiet_nil ?_
                      intro _ hw'
                      obtain ⟨x7, rfl⟩ := hw'
                      go_wp2_with (go_at_call 21; (with_reducible refine (HQ3.out _ ((hPv.trans (Plus.is _)))).mono ?_); rintro e xw ⟨rfl, ⟨y3, rfl⟩⟩)
                      rw [Exit.noGoto_ret]
                      go_wp2_with fail
                      go_returns
                      exact ⟨ret_i HZR.out.symm, hP1.trans (by repeat' (first | exact Plus.refl _ | refine Plus.alloc ?_ _ | refine Plus.plus ?_ _ | refine Plus.drew ?_ | refine Plus.drewN ?_ _))⟩
            · go_wp2_with fail
              rw [Exit.noGoto_normal]
              go_wp2_with fail
              go_roundw
              case rel => exact ⟨i + 1, int_eq (by omega), by omega, Lib.hid fun q hq => by
                by_cases e : q = i
                · subst e
                  rintro ⟨u, hu1, hu2⟩
                  exact HNV.out u (by omega) hu2
                · exact HNI.out q (by omega), (by repeat' (first | exact Plus.refl _ | refine Plus.alloc ?_ _ | refine Plus.plus ?_ _ | refine Plus.drew ?_ | refine Plus.drewN ?_ _))⟩
              case measure => simp [intOf]; omega
        · obtain rfl : i = e1.f.length := by omega
          go_wp2_with fail
          go_roundw
          case rel => exact ⟨r + 1, int_eq (by omega), by omega, Lib.hid fun q hq => by
            by_cases e : q = r
            · subst e
              rintro ⟨u, hu1, hu2⟩
              rw [HU1.out] at hu1
              exact HNI.out u hu1 hu2
            · exact HNO.out q (by omega), (by repeat' (first | exact Plus.refl _ | refine Plus.alloc ?_ _ | refine Plus.plus ?_ _ | refine Plus.drew ?_ | refine Plus.drewN ?_ _))⟩
          case measure => simp [intOf]; omega
    · obtain rfl : r = n := by omega
      go_wp2_with fail
      go_returns
      exact ⟨ret_i (HZ.out.no HNO.out).symm, hP1.trans (by repeat' (first | exact Plus.refl _ | refine Plus.alloc ?_ _ | refine Plus.plus ?_ _ | refine Plus.drew ?_ | refine Plus.drewN ?_ _))⟩
set_option maxRecDepth 100000 in
set_option maxHeartbeats 4000000 in
theorem coherent_f {l : List Ev} {ps : List Pr} {A B : Option Addr} {n c m d : Nat} (w : World) (H : Lg w l ps A n c B m d) (HM0 : Hid (MayR l ps false)) : Calls Tryd.prog 25 #[.agg #[.slice A n c, .slice B m d]] w fun e w' => e = .returned (.int .i64 0) ∧ Plus w w' := by
  have HLG := Lib.hid H
  clear H
  go_enter Tryd.func25, Tryd.ntmps25
  go_wp2_with (go_at_call 20; (with_reducible refine (may_s _ HM0 (HLG.out.plus (by repeat' (first | exact Plus.refl _ | refine Plus.alloc ?_ _ | refine Plus.plus ?_ _ | refine Plus.drew ?_ | refine Plus.drewN ?_ _)))).mono ?_); rintro e xw ⟨rfl, ⟨ym, rfl⟩⟩)
  go_returns
  exact ⟨rfl, (by repeat' (first | exact Plus.refl _ | refine Plus.alloc ?_ _ | refine Plus.plus ?_ _ | refine Plus.drew ?_ | refine Plus.drewN ?_ _))⟩
end Go.Proofs.YtmfdlcicbiincaaDoor
