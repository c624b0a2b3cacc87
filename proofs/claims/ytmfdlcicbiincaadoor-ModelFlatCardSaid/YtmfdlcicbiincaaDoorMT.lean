/- TearFree. -/
import Derived.WalkKit
import Derived.WalkSpells
import Derived.WalkLawsBesides
import Derived.Handy
import Derived.Deep.RegionHeld3
import Derived.Deep.DeepCutAuto
import Derived.Deep.QuietTactic
import Derived.BigQuiet
import Derived.Lib.Hide
import Derived.KernelRfl
import Derived.WalkMore
import Derived.Deep.LoopGhost
import Derived.IntWalk
import Derived.Deep.RegionLaw
import Derived.RangeFuncBox
import Derived.Test.YtmfdlcicbiincaaDoorME
namespace Go.Proofs.YtmfdlcicbiincaaDoor
open Go.RowKit


/-- What has been met so far. -/
def TeR (l : List Ev) (r j : Nat) (x : Int) : Prop := (x = -1 ∧ ∀ i, i < j → ¬ WhoP l r (frA l r i)) ∨ (∃ i, i < j ∧ frA l r i = x ∧ WhoP l r x ∧ ∀ i, i < j → WhoP l r (frA l r i) → frA l r i = x)
theorem TeR.skip {l : List Ev} {r j : Nat} {x fi : Int} (h : TeR l r j x) (hf : frA l r j = fi) (hn : fi = x ∧ x ≠ -1 ∨ ¬ WhoP l r fi) : TeR l r (j + 1) x := by
  rcases h with ⟨h1, h2⟩ | ⟨i, h1, h2, h3, h4⟩
  · refine .inl ⟨h1, fun i hi => ?_⟩
    by_cases e : i = j
    · subst e
      rw [hf]
      rcases hn with ⟨_, k⟩ | k
      · exact absurd h1 k
      · exact k
    · exact h2 i (by omega)
  · refine .inr ⟨i, by omega, h2, h3, fun k hk hw => ?_⟩
    by_cases e : k = j
    · subst e
      rw [hf] at hw ⊢
      rcases hn with k | k
      · exact k.1
      · exact absurd hw k
    · exact h4 k (by omega) hw
theorem TeR.take {l : List Ev} {r j : Nat} {fi : Int} (h : TeR l r j (-1)) (hf : frA l r j = fi) (hw : WhoP l r fi) : TeR l r (j + 1) fi := by
  rcases h with ⟨h1, h2⟩ | ⟨i, h1, h2, h3, h4⟩
  · refine .inr ⟨j, by omega, hf, hw, fun i hi q => ?_⟩
    by_cases e : i = j
    · rw [e]; exact hf
    · exact absurd q (h2 i (by omega))
  · exact absurd rfl h3.1
theorem TeR.done {l : List Ev} {r : Nat} {x : Int} (h : TeR l r (l.getD r default).f.length x) : ¬ TearP l r := by
  rintro ⟨_, i, j, hi, hj, q1, q2, q3⟩
  rcases h with ⟨h1, h2⟩ | ⟨k, h1, h2, h3, h4⟩
  · exact h2 i hi q1
  · exact q3 ((h4 i hi q1).trans (h4 j hj q2).symm)
theorem TeR.hit {l : List Ev} {r j : Nat} {x fi : Int} (h : TeR l r j x) (hj : j < (l.getD r default).f.length) (hf : frA l r j = fi) (hx : x ≠ -1) (hne : fi ≠ x) (hw : WhoP l r fi) (ht : (l.getD r default).t = true) : TearP l r := by
  rcases h with ⟨h1, h2⟩ | ⟨k, h1, h2, h3, h4⟩
  · exact absurd h1 hx
  · exact ⟨ht, k, j, by omega, hj, by rw [h2]; exact h3, by rw [hf]; exact hw, by rw [h2, hf]; exact fun e => hne e.symm⟩
set_option maxRecDepth 100000 in
set_option maxHeartbeats 16000000 in
theorem tear_t {l : List Ev} {ps : List Pr} {A B : Option Addr} {n c m d : Nat} {z : Int} (w : World) (H : Lg w l ps A n c B m d) (HM0 : Hid (MayR l ps true)) (HMM : Hid (MayP l ps)) (HZ : Hid (Fst n (TearP l) z)) : Calls Tryd.prog 27 #[.agg #[.slice A n c, .slice B m d]] w fun e w' => e = .returned (.int .i64 z) ∧ Plus w w' := by
  have hn : n ≤ 1000 := by rw [H.len.1]; exact HMM.out.1
  have HLN := Lib.hid H.len.1
  obtain ⟨rs, hrl, hes⟩ := H.ev
  have HES := Lib.hid hes
  have HRL := Lib.hid hrl
  have hcap := hes.cap
  have hmx := hes.max
  have HLG := Lib.hid H
  clear hes hrl H
  go_enter Tryd.func27, Tryd.ntmps27
  go_wp2_with fail
  go_step3
  go_wp2_with (first | (go_at_call 20; (with_reducible refine (may_s _ HM0 (HLG.out.plus (by repeat' (first | exact Plus.refl _ | refine Plus.alloc ?_ _ | refine Plus.plus ?_ _ | refine Plus.drew ?_ | refine Plus.drewN ?_ _)))).mono ?_); rintro e xw ⟨rfl, ⟨ym, rfl⟩⟩))
  go_step3
  go_wp2_with fail
  obtain ⟨W1, hW1⟩ : ∃ W1, plus (w.alloc (.cells #[.slice A n c, .slice B m d] 25)) ym = W1 := ⟨_, rfl⟩
  have hBX : Bx W1 w.heap.size (.slice A n c) (.slice B m d) := by rw [← hW1]; exact (bx_new w _ _).plus (by repeat' (first | exact Plus.refl _ | refine Plus.alloc ?_ _ | refine Plus.plus ?_ _ | refine Plus.drew ?_ | refine Plus.drewN ?_ _))
  have hP1 : Plus w W1 := by rw [← hW1]; exact (by repeat' (first | exact Plus.refl _ | refine Plus.alloc ?_ _ | refine Plus.plus ?_ _ | refine Plus.drew ?_ | refine Plus.drewN ?_ _))
  rw [hW1]
  have c0 := hBX.c0
  have hbl := hBX.lt
  clear hBX hW1
  go_loopw [14] (fun s14 wr => ∃ r : Nat, s14 = .int .i64 r ∧ r ≤ n ∧ Hid (∀ q, q < r → ¬ TearP l q) ∧ Plus W1 wr) (fun s14 _ => ((n : Int) - intOf s14).toNat)
  case atStart => exact ⟨0, rfl, Nat.zero_le _, Lib.hid fun q h => absurd h (by omega), Plus.refl _⟩
  case round =>
    obtain ⟨r, rfl, hr, HNO, ⟨x0, rfl⟩⟩ := hrel
    by_cases hlt : r < n
    · have hlt' : (r : Int) < n := by omega
      obtain ⟨g, o, e1, rfl, hx1, hm1, hM1, q0, q1, q2, q3, q4, q5, q6, q7, q8, q9⟩ := (HES.out.plus (hP1.trans (Plus.is x0))).at_ hlt
      have u1 := getD_map (show r < rs.length by rw [← HES.out.len]; exact hlt) hx1
      rw [HRL.out] at u1
      have hb := ev_ok HMM.out (show r < l.length by rw [← HLN.out]; exact hlt)
      rw [u1] at hb
      have hadd1 := add_addr g o (r * 10)
      have lg1 : g < W1.heap.size := by
        obtain ⟨g2, o2, e, q, _⟩ := (HES.out.plus hP1).rd (by rw [← HES.out.len]; omega)
        injection e with e
        injection e with e _ _
        rw [e]
        exact q
      haveI : Old g W1 := ⟨lg1⟩
      haveI : Old w.heap.size W1 := ⟨hbl⟩
      obtain ⟨e1, R1, cr1, X1, cw1, F1, cf1⟩ := e1
      simp only at q0 q1 q2 q3 q4 q5 q6 q7 q8 q9 u1 hb
      have HU1 := Lib.hid u1
      have HM1 := Lib.hid hM1
      obtain ⟨nt, hnt⟩ : ∃ b, e1.t = b := ⟨_, rfl⟩
      rw [hnt] at q3
      have HNT := Lib.hid hnt
      clear hx1 hm1 hM1 u1 hnt
      cases nt
      · go_wp2_with fail
        go_step3
        go_wp2_with fail
        rw [Exit.noGoto_exit]
        go_wp2_with fail
        go_roundw
        case rel => exact ⟨r + 1, int_eq (by omega), by omega, Lib.hid fun q hq => by
          by_cases e : q = r
          · subst e
            intro h
            have h1 := h.1
            rw [HU1.out, HNT.out] at h1
            cases h1
          · exact HNO.out q (by omega), (by repeat' (first | exact Plus.refl _ | refine Plus.alloc ?_ _ | refine Plus.plus ?_ _ | refine Plus.drew ?_ | refine Plus.drewN ?_ _))⟩
        case measure => simp [intOf]; omega
      · go_wp2_with fail
        go_step3
        go_wp2_with fail
        go_step3
        go_wp2_with fail
        have HF := Lib.hid (show Ar .i64 (plus W1 x0) F1 e1.f e1.f.length cf1 from HM1.out.ef)
        have hfc := HF.out.cap
        have hfm := HF.out.max
        go_loopw [5, 25] (fun s5 s25 wr => ∃ (j : Nat) (x : Int), s5 = .int .i64 x ∧ s25 = .int .i64 j ∧ j ≤ e1.f.length ∧ Hid (TeR l r j x) ∧ Plus ((plus W1 x0).alloc (.cells #[.int .i64 e1.g, .int .i64 e1.k, .bool e1.s, .bool true, .int .i64 e1.b, .int .i64 e1.a, .int .i64 e1.z, .slice R1 e1.r.length cr1, .slice X1 e1.w.length cw1, .slice F1 e1.f.length cf1] 42)) wr) (fun _ s25 _ => ((e1.f.length : Int) - intOf s25).toNat)
        case atStart => exact ⟨0, -1, rfl, rfl, Nat.zero_le _, Lib.hid (.inl ⟨rfl, fun q h => absurd h (by omega)⟩), Plus.refl _⟩
        case round =>
          obtain ⟨j, x, rfl, rfl, hj, HTE, ⟨xi, rfl⟩⟩ := hrel
          by_cases hil : j < e1.f.length
          · have hil' : (j : Int) < e1.f.length := by omega
            obtain ⟨fg, fo, rfl, hfg, hfat⟩ := (HF.out.plus (show Plus (plus W1 x0) (plus ((plus W1 x0).alloc (.cells #[.int .i64 e1.g, .int .i64 e1.k, .bool e1.s, .bool true, .int .i64 e1.b, .int .i64 e1.a, .int .i64 e1.z, .slice R1 e1.r.length cr1, .slice X1 e1.w.length cw1, .slice F1 e1.f.length cf1] 42)) xi) from (by repeat' (first | exact Plus.refl _ | refine Plus.alloc ?_ _ | refine Plus.plus ?_ _ | refine Plus.drew ?_ | refine Plus.drewN ?_ _)))).rd.at_ hil
            have hcf := hfat j hil
            obtain ⟨fi, hfi⟩ : ∃ v, e1.f.getD j 0 = v := ⟨_, rfl⟩
            have hfr := from_lt HMM.out (show r < l.length by rw [← HLN.out]; exact hlt) (i := j) (by rw [HU1.out]; exact hil)
            rw [HU1.out, hfi] at hfr
            have HFA := Lib.hid (show frA l r j = fi by unfold frA; rw [HU1.out, hfi])
            rw [hfi] at hcf
            have haddf := add_addr fg fo j
            clear hfi hfat
            go_upto_region 11 with fail
            by_cases hf1 : fi = -1
            · have HNX := Lib.hid (HTE.out.skip HFA.out (.inr fun h => h.1 hf1))
              clear hfr
              subst hf1
              refine wp_region_plus (by kernel_rfl) (by kernel_rfl) ?_
              repeat (go_big_quiet_step (fail))
              refine wpQuiet_nil ?_
              intro _ hw'
              obtain ⟨x7, rfl⟩ := hw'
              go_wp2_with fail
              go_roundw
              case rel => exact ⟨j + 1, x, rfl, int_eq (by omega), by omega, HNX, (by repeat' (first | exact Plus.refl _ | refine Plus.alloc ?_ _ | refine Plus.plus ?_ _ | refine Plus.drew ?_ | refine Plus.drewN ?_ _))⟩
              case measure => simp [intOf]; omega
            · by_cases hfx : fi = x
              · have HNX := Lib.hid (HTE.out.skip HFA.out (.inl ⟨hfx, fun e => hf1 (hfx.trans e)⟩))
                subst hfx
                have b1 : (fi == -1) = false := beq_false_of_ne hf1
                refine wp_region_plus (by kernel_rfl) (by kernel_rfl) ?_
                repeat (go_big_quiet_step (fail))
                refine wpQuiet_nil ?_
                intro _ hw'
                obtain ⟨x7, rfl⟩ := hw'
                go_wp2_with fail
                go_roundw
                case rel => exact ⟨j + 1, fi, rfl, int_eq (by omega), by omega, HNX, (by repeat' (first | exact Plus.refl _ | refine Plus.alloc ?_ _ | refine Plus.plus ?_ _ | refine Plus.drew ?_ | refine Plus.drewN ?_ _))⟩
                case measure => simp [intOf]; omega
              · obtain ⟨v, rfl⟩ : ∃ v : Nat, fi = (v : Int) := ⟨fi.toNat, by omega⟩
                have b1 : ((v : Int) == -1) = false := beq_false_of_ne hf1
                have b2 : ((v : Int) == x) = false := beq_false_of_ne hfx
                have hvr : v < r := by omega
                have hvn : v < n := by omega
                have hvn' : (v : Int) < n := by omega
                have hPv : Plus W1 (plus ((plus W1 x0).alloc (.cells #[.int .i64 e1.g, .int .i64 e1.k, .bool e1.s, .bool true, .int .i64 e1.b, .int .i64 e1.a, .int .i64 e1.z, .slice R1 e1.r.length cr1, .slice X1 e1.w.length cw1, .slice (some ⟨fg, fo, none⟩) e1.f.length cf1] 42)) xi) := (by repeat' (first | exact Plus.refl _ | refine Plus.alloc ?_ _ | refine Plus.plus ?_ _ | refine Plus.drew ?_ | refine Plus.drewN ?_ _))
                obtain ⟨g', o', e2, hA, hx2, hm2, hM2, r0, r1, r2, r3, r4, r5, r6, r7, r8, r9⟩ := (HES.out.plus (hP1.trans hPv)).at_ hvn
                injection hA with hA
                injection hA with hg' ho' _
                subst hg' ho'
                have u2' := getD_map (show v < rs.length by rw [← HES.out.len]; exact hvn) hx2
                rw [HRL.out] at u2'
                have hadd2 := add_addr g o (v * 10)
                obtain ⟨e2, R2, cr2, X2, cw2, F2, cf2⟩ := e2
                simp only at r0 r1 r2 r3 r4 r5 r6 r7 r8 r9 u2'
                have HU2 := Lib.hid u2'
                obtain ⟨c1, hc1⟩ : ∃ c1, cantB e2 e1 = c1 := ⟨_, rfl⟩
                have HC1 := Lib.hid (show canM e2.t e2.k e2.b e2.a e2.z e1.k e1.b e1.a e1.z = c1 from hc1)
                have hwho : WhoP l r (v : Int) ↔ c1 = true := by
                  unfold WhoP
                  rw [Int.toNat_natCast, HU1.out, HU2.out, hc1]
                  exact ⟨fun h => h.2, fun h => ⟨hf1, h⟩⟩
                clear hc1 hx2 hm2 hM2 u2'
                cases c1
                · have HNX := Lib.hid (HTE.out.skip HFA.out (.inr fun h => by cases hwho.1 h))
                  clear hwho
                  refine wp_region_plus (by kernel_rfl) (by kernel_rfl) ?_
                  repeat (go_big_quiet_step ((go_at_call 64; exact calls_plus (cant_n HC1 _))))
                  refine wpQuiet_nil ?_
                  intro _ hw'
                  obtain ⟨x7, rfl⟩ := hw'
                  go_wp2_with fail
                  go_roundw
                  case rel => exact ⟨j + 1, x, rfl, int_eq (by omega), by omega, HNX, (by repeat' (first | exact Plus.refl _ | refine Plus.alloc ?_ _ | refine Plus.plus ?_ _ | refine Plus.drew ?_ | refine Plus.drewN ?_ _))⟩
                  case measure => simp [intOf]; omega
                · by_cases hx1 : x = -1
                  · subst hx1
                    have HNX := Lib.hid (HTE.out.take HFA.out (hwho.2 rfl))
                    clear hwho
                    refine wp_region_plus (by kernel_rfl) (by kernel_rfl) ?_
                    repeat (go_big_quiet_step ((go_at_call 64; exact calls_plus (cant_n HC1 _))))
                    refine wpQuiet_nil ?_
                    intro _ hw'
                    obtain ⟨x7, rfl⟩ := hw'
                    go_wp2_with fail
                    go_roundw
                    case rel => exact ⟨j + 1, (v : Int), rfl, int_eq (by omega), by omega, HNX, (by repeat' (first | exact Plus.refl _ | refine Plus.alloc ?_ _ | refine Plus.plus ?_ _ | refine Plus.drew ?_ | refine Plus.drewN ?_ _))⟩
                    case measure => simp [intOf]; omega
                  · have HZR := Lib.hid (HZ.out.hit hlt (HTE.out.hit (by rw [HU1.out]; exact hil) HFA.out hx1 hfx (hwho.2 rfl) (by rw [HU1.out]; exact HNT.out)) HNO.out)
                    clear hwho
                    refine wp_region_plus (by kernel_rfl) (by kernel_rfl) ?_
                    repeat (go_big_quiet_step ((go_at_call 64; exact calls_plus (cant_n HC1 _))))
                    refine wpQuiet_nil ?_
                    intro _ hw'
                    obtain ⟨x7, rfl⟩ := hw'
                    go_wp2_with fail
                    rw [Exit.noGoto_ret]
                    go_wp2_with fail
                    go_returns
                    exact ⟨ret_i HZR.out.symm, hP1.trans (by repeat' (first | exact Plus.refl _ | refine Plus.alloc ?_ _ | refine Plus.plus ?_ _ | refine Plus.drew ?_ | refine Plus.drewN ?_ _))⟩
          · obtain rfl : j = e1.f.length := by omega
            go_wp2_with fail
            rw [Exit.noGoto_normal]
            go_wp2_with fail
            go_roundw
            case rel => exact ⟨r + 1, int_eq (by omega), by omega, Lib.hid fun q hq => by
              by_cases e : q = r
              · subst e
                exact TeR.done (x := x) (by rw [HU1.out]; exact HTE.out)
              · exact HNO.out q (by omega), (by repeat' (first | exact Plus.refl _ | refine Plus.alloc ?_ _ | refine Plus.plus ?_ _ | refine Plus.drew ?_ | refine Plus.drewN ?_ _))⟩
            case measure => simp [intOf]; omega
    · obtain rfl : r = n := by omega
      go_wp2_with fail
      rw [Exit.noGoto_ret]
      go_returns
      exact ⟨ret_i (HZ.out.no HNO.out).symm, hP1.trans (by repeat' (first | exact Plus.refl _ | refine Plus.alloc ?_ _ | refine Plus.plus ?_ _ | refine Plus.drew ?_ | refine Plus.drewN ?_ _))⟩
set_option maxRecDepth 100000 in
set_option maxHeartbeats 4000000 in
theorem tear_f {l : List Ev} {ps : List Pr} {A B : Option Addr} {n c m d : Nat} (w : World) (H : Lg w l ps A n c B m d) (HM0 : Hid (MayR l ps false)) : Calls Tryd.prog 27 #[.agg #[.slice A n c, .slice B m d]] w fun e w' => e = .returned (.int .i64 0) ∧ Plus w w' := by
  have HLG := Lib.hid H
  clear H
  go_enter Tryd.func27, Tryd.ntmps27
  go_wp2_with fail
  go_step3
  go_wp2_with (go_at_call 20; (with_reducible refine (may_s _ HM0 (HLG.out.plus (by repeat' (first | exact Plus.refl _ | refine Plus.alloc ?_ _ | refine Plus.plus ?_ _ | refine Plus.drew ?_ | refine Plus.drewN ?_ _)))).mono ?_); rintro e xw ⟨rfl, ⟨ym, rfl⟩⟩)
  rw [Exit.noGoto_ret]
  go_returns
  exact ⟨rfl, (by repeat' (first | exact Plus.refl _ | refine Plus.alloc ?_ _ | refine Plus.plus ?_ _ | refine Plus.drew ?_ | refine Plus.drewN ?_ _))⟩
end Go.Proofs.YtmfdlcicbiincaaDoor
