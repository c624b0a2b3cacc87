/- Atomic. -/
import Derived.WalkKit
import Derived.WalkSpells
import Derived.WalkLawsBesides
import Derived.Handy
import Derived.Deep.RegionHeld3
import Derived.Deep.DeepCutAuto
import Derived.Deep.QuietTactic
import Derived.BigQuiet
import Derived.Lib.Hide
import Derived.KernelRfl
import Derived.WalkMore
import Derived.Deep.LoopGhost
import Derived.IntWalk
import Derived.Deep.RegionLaw
import Derived.RangeFuncBox
import Derived.Test.YtmfdlcicbiincaaDoorME
namespace Go.Proofs.YtmfdlcicbiincaaDoor
open Go.RowKit


/-- An event in a box. -/
def BxE (w : World) (b : Nat) (x : ER) : Prop := w.heap[b]? = some (.cells (evL x).toArray 42 (0, 0))
section
variable {w w' : World} {b : Nat} {x : ER}
theorem BxE.plus (h : BxE w b x) (hp : Plus w w') : BxE w' b x := (hp.below.block b (Array.getElem?_eq_some_iff.1 h).1).trans h
theorem BxE.lt (h : BxE w b x) : b < w.heap.size := (Array.getElem?_eq_some_iff.1 h).1
theorem BxE.cells (h : BxE w b x) : w.cell? ⟨b, 0, none⟩ = some (.int .i64 x.e.g) ∧ w.cell? ⟨b, 1, none⟩ = some (.int .i64 x.e.k) ∧ w.cell? ⟨b, 2, none⟩ = some (.bool x.e.s) ∧ w.cell? ⟨b, 3, none⟩ = some (.bool x.e.t) ∧ w.cell? ⟨b, 4, none⟩ = some (.int .i64 x.e.b) ∧ w.cell? ⟨b, 5, none⟩ = some (.int .i64 x.e.a) ∧ w.cell? ⟨b, 6, none⟩ = some (.int .i64 x.e.z) ∧ w.cell? ⟨b, 7, none⟩ = some (.slice x.R x.e.r.length x.cr) ∧ w.cell? ⟨b, 8, none⟩ = some (.slice x.W x.e.w.length x.cw) ∧ w.cell? ⟨b, 9, none⟩ = some (.slice x.F x.e.f.length x.cf) := by
  refine ⟨?_, ?_, ?_, ?_, ?_, ?_, ?_, ?_, ?_, ?_⟩ <;> (rw [cell_of_row w b _ _ _ _ h]; rfl)
theorem BxE.new (w : World) (x : ER) (b : Nat) (hb : b = w.heap.size) : BxE (w.alloc (.cells (evL x).toArray 42)) b x := by
  rw [hb]
  exact World.alloc_heap_new w _
end
/-- Whether v has written between w and r. -/
def AtvR (l : List Ev) (S B : Nat → Nat → Bool) (r w v : Nat) (t : Bool) : Prop := AtvP l S B r w v ↔ t = true
theorem atv_of {l : List Ev} {S B : Nat → Nat → Bool} {r w v : Nat} {e1 e2 e3 : Ev} {cw cs a1 a2 a3 a4 a5 a6 a7 : Bool} (u1 : l.getD r default = e1) (u2 : l.getD w default = e2) (u3 : l.getD v default = e3) (h1 : writesM e3.k = cw) (h2 : e3.s = cs) (k1 : S w r = a1) (k2 : eqE e3 e1 = a2) (k3 : B v r = a3) (k4 : e2.s = a4) (k5 : eqE e2 e3 = a5) (k6 : B w v = a6) (k7 : e1.s = a7) : AtvR l S B r w v (cw && (cs && ((a1 && a2) || ((a3 && (a4 && a5)) || (a6 && (a7 && a2)))))) := by
  unfold AtvR AtvP
  rw [u1, u2, u3, h1, h2, k1, k2, k3, k4, k5, k6, k7]
  simp only [Bool.and_eq_true, Bool.or_eq_true]
/-- What is made of a log: synchronizes-with, happens-before, and where each stands. -/
def AtS (w : World) (l : List Ev) (ps : List Pr) (n K : Nat) (A : Option Addr) (c : Nat) (B : Option Addr) (m d : Nat) (D : Option Addr) (P : List Int) (cD : Nat) (s7 s8 : Value) (wx : World) : Prop := ∃ p1 p2 B1 B2 hs1 hs2, s7 = .pointer (some ⟨p1, 0, none⟩) ∧ s8 = .pointer (some ⟨p2, 0, none⟩) ∧ Rl wx B1 p1 n K (sncB l ps) hs1 ∧ Rl wx B2 p2 n K (befB l ps) hs2 ∧ Bx wx w.heap.size (.slice A n c) (.slice B m d) ∧ Ar .i64 wx D P n cD ∧ Plus w wx
set_option maxRecDepth 100000 in
set_option maxHeartbeats 16000000 in
theorem atomic_t {l : List Ev} {ps : List Pr} {A B : Option Addr} {n c m d : Nat} {K : Nat} {z : Int} {O : Option Addr} {os : List Int} {no co : Nat} (w : World) (hL : Lai w) (H : Lg w l ps A n c B m d) (HM0 : Hid (MayR l ps true)) (HMM : Hid (MayP l ps)) (HK : Hid (K = (n + 63) / 64)) (HO : Ar .i64 w O os no co) (HORD : Hid (OrdP n (befB l ps) os)) (HZ : Hid (Fst n (AtoP l (sncB l ps) (befB l ps) os n) z)) : Calls Tryd.prog 31 #[.agg #[.slice A n c, .slice B m d], .slice O no co] w fun e w' => e = .returned (.int .i64 z) ∧ Plus w w' := by
  have hn : n ≤ 1000 := by rw [H.len.1]; exact HMM.out.1
  have HLN := Lib.hid H.len.1
  have hkk : n ≤ 64 * K ∧ K ≤ 1000 := by rw [HK.out]; omega
  have HOR : Hid (OrdR n (befB l ps) os (-1)) := Lib.hid (.inl ⟨HORD.out, rfl⟩)
  have HPER := Lib.hid HORD.out.1
  obtain ⟨rs, hrl, hes⟩ := H.ev
  have HES := Lib.hid hes
  have HRL := Lib.hid hrl
  have hcap := hes.cap
  have hmx := hes.max
  have HLG := Lib.hid H
  have HLA := Lib.hid hL
  have HOS := Lib.hid HO
  have hno := Lib.hid HO.len
  have hon : n = no := by rw [HO.len]; exact HORD.out.1.1.symm
  have hoc := HO.cap
  have hom := HO.max
  clear hes hrl H hL HO
  subst hon
  go_enter Tryd.func31, Tryd.ntmps31
  go_wp2_with (first | (go_at_call 29; (with_reducible refine (ordered_t _ (HLA.out.plus (by repeat' (first | exact Plus.refl _ | refine Plus.alloc ?_ _ | refine Plus.plus ?_ _ | refine Plus.drew ?_ | refine Plus.drewN ?_ _))) (HLG.out.plus (by repeat' (first | exact Plus.refl _ | refine Plus.alloc ?_ _ | refine Plus.plus ?_ _ | refine Plus.drew ?_ | refine Plus.drewN ?_ _))) HM0 HMM HK (HOS.out.plus (by repeat' (first | exact Plus.refl _ | refine Plus.alloc ?_ _ | refine Plus.plus ?_ _ | refine Plus.drew ?_ | refine Plus.drewN ?_ _))) HOR).mono ?_); rintro e xw ⟨rfl, ⟨x3, rfl⟩⟩) | (go_at_call 65; (with_reducible refine (places_t _ (HOS.out.plus (by repeat' (first | exact Plus.refl _ | refine Plus.alloc ?_ _ | refine Plus.plus ?_ _ | refine Plus.drew ?_ | refine Plus.drewN ?_ _))) (by omega) HPER).mono ?_); rintro e xw ⟨D, cD, P, rfl, hAP, hPL, ⟨x1, rfl⟩⟩; have HAP := Lib.hid hAP; have HPL := Lib.hid hPL; clear hAP hPL))
  go_cut [7, 8] (fun s7 s8 wx => AtS w l ps n K A c B m d D P cD s7 s8 wx)
  case first =>
    go_region_held3 (fun w' => w'.cell? ⟨w.heap.size, 0, none⟩ = some (.slice A n c) ∧ w'.cell? ⟨w.heap.size, 1, none⟩ = some (.slice B m d)) (refine ⟨?_, ?_⟩ <;> simp [go_sem]) (first | (go_at_call 18; (with_reducible refine (before_m _ (HLA.out.plus (by repeat' (first | exact Plus.refl _ | refine Plus.alloc ?_ _ | refine Plus.plus ?_ _ | refine Plus.drew ?_ | refine Plus.drewN ?_ _))) (HLG.out.plus (by repeat' (first | exact Plus.refl _ | refine Plus.alloc ?_ _ | refine Plus.plus ?_ _ | refine Plus.drew ?_ | refine Plus.drewN ?_ _))) HMM HK).mono ?_); rintro e xw ⟨p2, hs2, rfl, hR2, ⟨x5, rfl⟩⟩; have HR2 := Lib.hid hR2; clear hR2) | (go_at_call 16; (with_reducible refine (sync_m _ (HLA.out.plus (by repeat' (first | exact Plus.refl _ | refine Plus.alloc ?_ _ | refine Plus.plus ?_ _ | refine Plus.drew ?_ | refine Plus.drewN ?_ _))) (HLG.out.plus (by repeat' (first | exact Plus.refl _ | refine Plus.alloc ?_ _ | refine Plus.plus ?_ _ | refine Plus.drew ?_ | refine Plus.drewN ?_ _))) HMM HK).mono ?_); rintro e xw ⟨p1, hs1, rfl, hR1, ⟨x4, rfl⟩⟩; have HR1 := Lib.hid hR1; clear hR1))
    all_goals go_wp2_with fail
    all_goals go_meet
    all_goals exact ⟨p1, p2, _, _, hs1, hs2, rfl, rfl, HR1.out.plus (by repeat' (first | exact Plus.refl _ | refine Plus.alloc ?_ _ | refine Plus.plus ?_ _ | refine Plus.drew ?_ | refine Plus.drewN ?_ _)), HR2.out.plus (by repeat' (first | exact Plus.refl _ | refine Plus.alloc ?_ _ | refine Plus.plus ?_ _ | refine Plus.drew ?_ | refine Plus.drewN ?_ _)), (bx_new w _ _).plus (by repeat' (first | exact Plus.refl _ | refine Plus.alloc ?_ _ | refine Plus.plus ?_ _ | refine Plus.drew ?_ | refine Plus.drewN ?_ _)), HAP.out.plus (by repeat' (first | exact Plus.refl _ | refine Plus.alloc ?_ _ | refine Plus.plus ?_ _ | refine Plus.drew ?_ | refine Plus.drewN ?_ _)), (by repeat' (first | exact Plus.refl _ | refine Plus.alloc ?_ _ | refine Plus.plus ?_ _ | refine Plus.drew ?_ | refine Plus.drewN ?_ _))⟩
  case rest =>
    obtain ⟨p1, p2, B1, B2, hs1, hs2, rfl, rfl, hR1, hR2, hBX, hAP, hP0⟩ := hcut
    obtain ⟨x9, rfl⟩ := hP0
    obtain ⟨W1, hW1⟩ : ∃ W1, plus w x9 = W1 := ⟨_, rfl⟩
    have hP1 : Plus w W1 := by rw [← hW1]; exact Plus.is x9
    rw [hW1] at hR1 hR2 hBX hAP ⊢
    clear hW1
    have HR1 := Lib.hid hR1
    have HR2 := Lib.hid hR2
    have HAPP := Lib.hid hAP
    have c0 := hBX.c0
    have hbl := hBX.lt
    have HBX := Lib.hid hBX
    clear hR1 hR2 hBX hAP
    go_wp2_with fail
    go_loopw [36] (fun s36 wr => ∃ r : Nat, s36 = .int .i64 r ∧ r ≤ n ∧ Hid (∀ q, q < r → ¬ AtoP l (sncB l ps) (befB l ps) os n q) ∧ Plus W1 wr) (fun s36 _ => ((n : Int) - intOf s36).toNat)
    case atStart => exact ⟨0, rfl, Nat.zero_le _, Lib.hid fun q h => absurd h (by omega), Plus.refl _⟩
    case round =>
      obtain ⟨r, rfl, hr, HNO, ⟨x0, rfl⟩⟩ := hrel
      by_cases hlt : r < n
      · have hlt' : (r : Int) < n := by omega
        obtain ⟨g, o, e1, rfl, hx1, hm1, hM1, q0, q1, q2, q3, q4, q5, q6, q7, q8, q9⟩ := (HES.out.plus (hP1.trans (Plus.is x0))).at_ hlt
        have u1 := getD_map (show r < rs.length by rw [← HES.out.len]; exact hlt) hx1
        rw [HRL.out] at u1
        have hb := ev_ok HMM.out (show r < l.length by rw [← HLN.out]; exact hlt)
        rw [u1] at hb
        have hadd1 := add_addr g o (r * 10)
        have lg1 : g < W1.heap.size := by
          obtain ⟨g2, o2, e, q, _⟩ := (HES.out.plus hP1).rd (by rw [← HES.out.len]; omega)
          injection e with e
          injection e with e _ _
          rw [e]
          exact q
        haveI : Old g W1 := ⟨lg1⟩
        haveI : Old w.heap.size W1 := ⟨hbl⟩
        obtain ⟨e1, R1, cr1, X1, cw1, F1, cf1⟩ := e1
        simp only at q0 q1 q2 q3 q4 q5 q6 q7 q8 q9 u1 hb
        have HU1 := Lib.hid u1
        have HF0 := Lib.hid (show Ar .i64 (plus W1 x0) F1 e1.f e1.f.length cf1 from hM1.ef)
        clear hx1 hm1 hM1 u1
        go_wp2_with fail
        go_step3
        go_wp2_with fail
        have HB1 := Lib.hid (BxE.new (plus W1 x0) ⟨e1, R1, cr1, X1, cw1, F1, cf1⟩ (W1.heap.size + x0.blocks.length) (by simp [go_sem]))
        have hP2 : Plus W1 ((plus W1 x0).alloc (.cells #[.int .i64 e1.g, .int .i64 e1.k, .bool e1.s, .bool e1.t, .int .i64 e1.b, .int .i64 e1.a, .int .i64 e1.z, .slice R1 e1.r.length cr1, .slice X1 e1.w.length cw1, .slice F1 e1.f.length cf1] 42)) := (by repeat' (first | exact Plus.refl _ | refine Plus.alloc ?_ _ | refine Plus.plus ?_ _ | refine Plus.drew ?_ | refine Plus.drewN ?_ _))
        obtain ⟨W2, hW2⟩ : ∃ W2, ((plus W1 x0).alloc (.cells #[.int .i64 e1.g, .int .i64 e1.k, .bool e1.s, .bool e1.t, .int .i64 e1.b, .int .i64 e1.a, .int .i64 e1.z, .slice R1 e1.r.length cr1, .slice X1 e1.w.length cw1, .slice F1 e1.f.length cf1] 42)) = W2 := ⟨_, rfl⟩
        obtain ⟨b1, hb1⟩ : ∃ b1, W1.heap.size + x0.blocks.length = b1 := ⟨_, rfl⟩
        have HB1' : Hid (BxE W2 b1 ⟨e1, R1, cr1, X1, cw1, F1, cf1⟩) := by rw [← hW2, ← hb1]; exact HB1
        have HF : Hid (Ar .i64 W2 F1 e1.f e1.f.length cf1) := by rw [← hW2]; exact Lib.hid (HF0.out.plus (by repeat' (first | exact Plus.refl _ | refine Plus.alloc ?_ _ | refine Plus.plus ?_ _ | refine Plus.drew ?_ | refine Plus.drewN ?_ _)))
        rw [hW2] at hP2 ⊢
        rw [hb1]
        clear hW2 HB1 HF0 hb1
        obtain ⟨d0, d1, d2, d3, d4, d5, d6, d7, d8, d9⟩ := HB1'.out.cells
        simp only at d0 d1 d2 d3 d4 d5 d6 d7 d8 d9
        haveI : Old b1 W2 := ⟨HB1'.out.lt⟩
        have c02 := (HBX.out.plus hP2).c0
        haveI : Old w.heap.size W2 := ⟨(HBX.out.plus hP2).lt⟩
        have hfc := HF.out.cap
        have hfm := HF.out.max
        clear q0 q1 q2 q3 q4 q5 q6 q7 q8 q9
        go_step3
        go_wp2_with fail
        go_loopw [44] (fun s44 wr => ∃ j : Nat, s44 = .int .i64 j ∧ j ≤ e1.f.length ∧ Hid (∀ q, q < j → ¬ AtiP l (sncB l ps) (befB l ps) os n r q) ∧ Plus W2 wr) (fun s44 _ => ((e1.f.length : Int) - intOf s44).toNat)
        case atStart => exact ⟨0, rfl, Nat.zero_le _, Lib.hid fun q h => absurd h (by omega), Plus.refl _⟩
        case round =>
          obtain ⟨j, rfl, hj, HNI, ⟨xi, rfl⟩⟩ := hrel
          by_cases hil : j < e1.f.length
          · have hil' : (j : Int) < e1.f.length := by omega
            obtain ⟨fg, fo, rfl, hfg, hfat⟩ := (HF.out.plus (Plus.is xi)).rd.at_ hil
            have hcf := hfat j hil
            obtain ⟨fi, hfi⟩ : ∃ v, e1.f.getD j 0 = v := ⟨_, rfl⟩
            have hfr := from_lt HMM.out (show r < l.length by rw [← HLN.out]; exact hlt) (i := j) (by rw [HU1.out]; exact hil)
            rw [HU1.out, hfi] at hfr
            have HFA := Lib.hid (show frA l r j = fi by unfold frA; rw [HU1.out, hfi])
            rw [hfi] at hcf
            have haddf := add_addr fg fo j
            have hPi : Plus W1 (plus W2 xi) := hP2.trans (Plus.is xi)
            clear hfi hfat
            by_cases hf1 : fi = -1
            · have HQ := Lib.hid (has_r (r := false) (plus W2 xi) (HR2.out.plus hPi) hkk.1 (by omega) (show hasR n (befB l ps) fi r = false by rw [hf1]; rfl))
              have HNX := Lib.hid (show ∀ q, q < j + 1 → ¬ AtiP l (sncB l ps) (befB l ps) os n r q from fun q hq h => by
                by_cases e : q = j
                · subst e
                  obtain ⟨y, _, _, _, _, h1, _⟩ := h
                  rw [HFA.out, hf1] at h1
                  omega
                · exact HNI.out q (by omega) h)
              subst hf1
              go_wp2_with fail
              go_step3
              go_wp2_with (go_at_call 21; (with_reducible refine HQ.out.mono ?_); rintro e w' ⟨rfl, hw'⟩; rw [hw']; clear hw' w')
              rw [Exit.noGoto_exit]
              go_wp2_with fail
              go_roundw
              case rel => exact ⟨j + 1, int_eq (by omega), by omega, HNX, (by repeat' (first | exact Plus.refl _ | refine Plus.alloc ?_ _ | refine Plus.plus ?_ _ | refine Plus.drew ?_ | refine Plus.drewN ?_ _))⟩
              case measure => simp [intOf]; omega
            · obtain ⟨y, rfl⟩ : ∃ y : Nat, fi = (y : Int) := ⟨fi.toNat, by omega⟩
              have hyr : y < r := by omega
              have hyn : y < n := by omega
              have hyn' : (y : Int) < n := by omega
              obtain ⟨cB, hcB⟩ : ∃ b, befB l ps y r = b := ⟨_, rfl⟩
              have HQB := Lib.hid (has_p HR2.out hkk y r hyn hlt cB hcB)
              cases cB
              · have HNX := Lib.hid (show ∀ q, q < j + 1 → ¬ AtiP l (sncB l ps) (befB l ps) os n r q from fun q hq h => by
                  by_cases e : q = j
                  · subst e
                    obtain ⟨y2, _, _, _, _, h1, h2, _⟩ := h
                    rw [HFA.out] at h1
                    obtain rfl : y = y2 := by omega
                    rw [hcB] at h2
                    cases h2
                  · exact HNI.out q (by omega) h)
                clear hcB
                go_wp2_with fail
                go_step3
                go_wp2_with (go_at_call 21; (with_reducible refine (HQB.out _ hPi).mono ?_); rintro e xw ⟨rfl, ⟨y3, rfl⟩⟩)
                rw [Exit.noGoto_exit]
                go_wp2_with fail
                go_roundw
                case rel => exact ⟨j + 1, int_eq (by omega), by omega, HNX, (by repeat' (first | exact Plus.refl _ | refine Plus.alloc ?_ _ | refine Plus.plus ?_ _ | refine Plus.drew ?_ | refine Plus.drewN ?_ _))⟩
                case measure => simp [intOf]; omega
              · obtain ⟨g', o', e2, hA, hx2, hm2, hM2, r0, r1, r2, r3, r4, r5, r6, r7, r8, r9⟩ := (HES.out.plus (hP1.trans hPi)).at_ hyn
                injection hA with hA
                injection hA with hg' ho' _
                subst hg' ho'
                have u2' := getD_map (show y < rs.length by rw [← HES.out.len]; exact hyn) hx2
                rw [HRL.out] at u2'
                have hadd2 := add_addr g o (y * 10)
                obtain ⟨e2, R2, cr2, X2, cw2, F2, cf2⟩ := e2
                simp only at r0 r1 r2 r3 r4 r5 r6 r7 r8 r9 u2'
                have HU2 := Lib.hid u2'
                have HCB := Lib.hid hcB
                clear hx2 hm2 hM2 u2' hcB
                haveI : Old g W2 := ⟨Nat.lt_of_lt_of_le lg1 hP2.below.size⟩
                go_wp2_with fail
                go_step3
                go_wp2_with (go_at_call 21; (with_reducible refine (HQB.out _ hPi).mono ?_); rintro e xw ⟨rfl, ⟨y3, rfl⟩⟩)
                have HB2 := Lib.hid (BxE.new (plus (plus W2 xi) y3) ⟨e2, R2, cr2, X2, cw2, F2, cf2⟩ (W2.heap.size + xi.blocks.length + y3.blocks.length) (by simp [go_sem]))
                have hP3 : Plus W2 ((plus (plus W2 xi) y3).alloc (.cells #[.int .i64 e2.g, .int .i64 e2.k, .bool e2.s, .bool e2.t, .int .i64 e2.b, .int .i64 e2.a, .int .i64 e2.z, .slice R2 e2.r.length cr2, .slice X2 e2.w.length cw2, .slice F2 e2.f.length cf2] 42)) := (by repeat' (first | exact Plus.refl _ | refine Plus.alloc ?_ _ | refine Plus.plus ?_ _ | refine Plus.drew ?_ | refine Plus.drewN ?_ _))
                obtain ⟨W3, hW3⟩ : ∃ W3, ((plus (plus W2 xi) y3).alloc (.cells #[.int .i64 e2.g, .int .i64 e2.k, .bool e2.s, .bool e2.t, .int .i64 e2.b, .int .i64 e2.a, .int .i64 e2.z, .slice R2 e2.r.length cr2, .slice X2 e2.w.length cw2, .slice F2 e2.f.length cf2] 42)) = W3 := ⟨_, rfl⟩
                obtain ⟨b2, hb2⟩ : ∃ b2, W2.heap.size + xi.blocks.length + y3.blocks.length = b2 := ⟨_, rfl⟩
                have HB2' : Hid (BxE W3 b2 ⟨e2, R2, cr2, X2, cw2, F2, cf2⟩) := by rw [← hW3, ← hb2]; exact HB2
                rw [hW3] at hP3 ⊢
                rw [hb2]
                clear hW3 HB2 hb2
                have hP13 := hP2.trans hP3
                have c03 := (HBX.out.plus hP13).c0
                haveI : Old w.heap.size W3 := ⟨(HBX.out.plus hP13).lt⟩
                obtain ⟨py, hpy, hPy, hoy⟩ := HPL.out.at_ HPER.out hyn
                obtain ⟨pr, hpr, hPr, hor⟩ := HPL.out.at_ HPER.out hlt
                have hle : py ≤ pr := by
                  have q := (keep_iff HPER.out HPL.out).1 HORD.out.2 y r hyn hlt HCB.out
                  rw [hPy, hPr] at q
                  omega
                have hne : py ≠ pr := fun e => by
                  rw [e, hor] at hoy
                  omega
                have hlt2 : py + 1 ≤ pr := by omega
                obtain ⟨pz, hpz⟩ : ∃ pz, py + 1 = pz := ⟨_, rfl⟩
                have hpz' : (py : Int) + 1 = (pz : Int) := by omega
                have hsb1 : ∀ w, Sem.run Tryd.prog (Instr.sliceBound (.int .i64 (pr : Int)) co BoundsCode.sliceAcap) w = .ok pr w := fun w => by rw [run_sliceBound w _ _ _ _ (by omega) (by omega)]; simp
                have hsb2 : ∀ w, Sem.run Tryd.prog (Instr.sliceBound (.int .i64 (pz : Int)) pr BoundsCode.sliceB) w = .ok pz w := fun w => by rw [run_sliceBound w _ _ _ _ (by omega) (by omega)]; simp
                have hcne : ¬ (co = pz) := by omega
                obtain ⟨dg, dof, rfl, hdg, hdat⟩ := (HAPP.out.plus hP13).rd.at_ (j := y) (by rw [HPL.out.1]; exact hyn)
                haveI : Old dg W3 := ⟨hdg⟩
                have hdy := hdat y (by rw [HPL.out.1]; exact hyn)
                have hdr := hdat r (by rw [HPL.out.1]; exact hlt)
                rw [hPy] at hdy
                rw [hPr] at hdr
                have haddy := add_addr dg dof y
                have haddr := add_addr dg dof r
                obtain ⟨og, oof, rfl, hog, hoat⟩ := (HOS.out.plus (hP1.trans hP13)).rd.at_ (j := py) (by rw [← hno.out]; exact hpy)
                haveI : Old og W3 := ⟨hog⟩
                have HOAT := Lib.hid hoat
                have HOY := Lib.hid hoy
                have HOR2 := Lib.hid hor
                clear hPy hPr hoy hor hdat hoat r0 r1 r2 r3 r4 r5 r6 r7 r8 r9
                go_step3
                go_upto_region 13 with fail
                refine wp_region_plus (by kernel_rfl) (by kernel_rfl) ?_
                repeat (go_big_quiet_step (fail))
                refine wpQuiet_nil ?_
                intro _ hw'
                obtain ⟨x7, rfl⟩ := hw'
                obtain ⟨m3, hm3⟩ : ∃ m3, pr - pz = m3 := ⟨_, rfl⟩
                have hm3' : pz + m3 = pr := by omega
                try rw [hm3]
                have hm3'' : m3 ≤ co - pz := by omega
                clear hdy hdr haddy haddr hm3 hsb1 hsb2
                go_wp2_with fail
                go_loopw [70] (fun s70 wr => ∃ k : Nat, s70 = .int .i64 k ∧ k ≤ m3 ∧ Hid (∀ q, pz ≤ q → q < pz + k → ¬ AtvP l (sncB l ps) (befB l ps) r y (os.getD q 0).toNat) ∧ Plus W3 wr) (fun s70 _ => ((m3 : Int) - intOf s70).toNat)
                case atStart => exact ⟨0, rfl, Nat.zero_le _, Lib.hid fun q h h2 => absurd h2 (by omega), (by repeat' (first | exact Plus.refl _ | refine Plus.alloc ?_ _ | refine Plus.plus ?_ _ | refine Plus.drew ?_ | refine Plus.drewN ?_ _))⟩
                case round =>
                  obtain ⟨k, rfl, hk, HNK, ⟨xk, rfl⟩⟩ := hrel
                  by_cases hkl : k < m3
                  · have hkl' : (k : Int) < m3 := by omega
                    have hqn : pz + k < n := by omega
                    have hco := HOAT.out (pz + k) (by rw [← hno.out]; exact hqn)
                    rw [← Nat.add_assoc] at hco
                    have hvb := HPER.out.2.1 (pz + k) hqn
                    obtain ⟨v, hv⟩ : ∃ v : Nat, os.getD (pz + k) 0 = (v : Int) := ⟨(os.getD (pz + k) 0).toNat, by omega⟩
                    rw [hv] at hco hvb
                    have HV := Lib.hid hv
                    have hvn : v < n := by omega
                    have hvn' : (v : Int) < n := by omega
                    have haddo := add_addr og (oof + pz) k
                    obtain ⟨g', o', e3, hA, hx3, hm3, hM3, r0, r1, r2, r3, r4, r5, r6, r7, r8, r9⟩ := (HES.out.plus (hP1.trans (hP13.trans (Plus.is xk)))).at_ hvn
                    injection hA with hA
                    injection hA with hg' ho' _
                    subst hg' ho'
                    have u3' := getD_map (show v < rs.length by rw [← HES.out.len]; exact hvn) hx3
                    rw [HRL.out] at u3'
                    have hadd3 := add_addr g o (v * 10)
                    obtain ⟨e3, R3, cr3, X3, cw3, F3, cf3⟩ := e3
                    simp only at r0 r1 r2 r3 r4 r5 r6 r7 r8 r9 u3'
                    have HU3 := Lib.hid u3'
                    clear hx3 hm3 hM3 u3' hv hvb
                    haveI : Old g W3 := ⟨Nat.lt_of_lt_of_le lg1 hP13.below.size⟩
                    go_upto_region 17 with fail
                    have HB3 := Lib.hid (BxE.new (plus W3 xk) ⟨e3, R3, cr3, X3, cw3, F3, cf3⟩ (W3.heap.size + xk.blocks.length) (by simp [go_sem]))
                    have hP5 : Plus W3 ((plus W3 xk).alloc (.cells #[.int .i64 e3.g, .int .i64 e3.k, .bool e3.s, .bool e3.t, .int .i64 e3.b, .int .i64 e3.a, .int .i64 e3.z, .slice R3 e3.r.length cr3, .slice X3 e3.w.length cw3, .slice F3 e3.f.length cf3] 42)) := (by repeat' (first | exact Plus.refl _ | refine Plus.alloc ?_ _ | refine Plus.plus ?_ _ | refine Plus.drew ?_ | refine Plus.drewN ?_ _))
                    obtain ⟨W5, hW5⟩ : ∃ W5, ((plus W3 xk).alloc (.cells #[.int .i64 e3.g, .int .i64 e3.k, .bool e3.s, .bool e3.t, .int .i64 e3.b, .int .i64 e3.a, .int .i64 e3.z, .slice R3 e3.r.length cr3, .slice X3 e3.w.length cw3, .slice F3 e3.f.length cf3] 42)) = W5 := ⟨_, rfl⟩
                    obtain ⟨b3, hb3⟩ : ∃ b3, W3.heap.size + xk.blocks.length = b3 := ⟨_, rfl⟩
                    have HB3' : Hid (BxE W5 b3 ⟨e3, R3, cr3, X3, cw3, F3, cf3⟩) := by rw [← hW5, ← hb3]; exact HB3
                    rw [hW5] at hP5 ⊢
                    rw [hb3]
                    have hP15 := hP13.trans hP5
                    have HB15 := Lib.hid (HB1'.out.plus (hP3.trans hP5))
                    have HB25 := Lib.hid (HB2'.out.plus hP5)
                    clear hW5 HB3 hb3 r0 r1 r2 r3 r4 r5 r6 r7 r8 r9 d0 d1 d2 d3 d4 d5 d6 d7 d8 d9 hco haddo hadd3
                    obtain ⟨ea0, ea1, ea2, ea3, ea4, ea5, ea6, ea7, ea8, ea9⟩ := HB15.out.cells
                    obtain ⟨eb0, eb1, eb2, eb3, eb4, eb5, eb6, eb7, eb8, eb9⟩ := HB25.out.cells
                    obtain ⟨ec0, ec1, ec2, ec3, ec4, ec5, ec6, ec7, ec8, ec9⟩ := HB3'.out.cells
                    simp only at ea0 ea1 ea2 ea3 ea4 ea5 ea6 ea7 ea8 ea9 eb0 eb1 eb2 eb3 eb4 eb5 eb6 eb7 eb8 eb9 ec0 ec1 ec2 ec3 ec4 ec5 ec6 ec7 ec8 ec9
                    haveI : Old b1 W5 := ⟨HB15.out.lt⟩
                    haveI : Old b2 W5 := ⟨HB25.out.lt⟩
                    haveI : Old b3 W5 := ⟨HB3'.out.lt⟩
                    obtain ⟨cw, hcw⟩ : ∃ b, writesM e3.k = b := ⟨_, rfl⟩
                    obtain ⟨cs, hcs⟩ : ∃ b, e3.s = b := ⟨_, rfl⟩
                    obtain ⟨a1, h1⟩ : ∃ b, sncB l ps y r = b := ⟨_, rfl⟩
                    obtain ⟨a2, h2⟩ : ∃ b, eqE e3 e1 = b := ⟨_, rfl⟩
                    obtain ⟨a3, h3⟩ : ∃ b, befB l ps v r = b := ⟨_, rfl⟩
                    obtain ⟨a4, h4⟩ : ∃ b, e2.s = b := ⟨_, rfl⟩
                    obtain ⟨a5, h5⟩ : ∃ b, eqE e2 e3 = b := ⟨_, rfl⟩
                    obtain ⟨a6, h6⟩ : ∃ b, befB l ps y v = b := ⟨_, rfl⟩
                    obtain ⟨a7, h7⟩ : ∃ b, e1.s = b := ⟨_, rfl⟩
                    have HATV := Lib.hid (atv_of HU1.out HU2.out HU3.out hcw hcs h1 h2 h3 h4 h5 h6 h7)
                    rw [hcs] at ec2
                    rw [h4] at eb2
                    rw [h7] at ea2
                    have HCW := Lib.hid hcw
                    have HQ1 := Lib.hid (has_p HR1.out hkk y r hyn hlt a1 h1)
                    have HQ3 := Lib.hid (has_p HR2.out hkk v r hvn hlt a3 h3)
                    have HQ6 := Lib.hid (has_p HR2.out hkk y v hyn hvn a6 h6)
                    have HE2 := Lib.hid (show equalM e3.k e3.b e3.a e3.z e1.k e1.b e1.a e1.z = a2 from h2)
                    have HE5 := Lib.hid (show equalM e2.k e2.b e2.a e2.z e3.k e3.b e3.a e3.z = a5 from h5)
                    have HRT := Lib.hid (show AtvP l (sncB l ps) (befB l ps) r y v → z = (r : Int) from fun h => HZ.out.hit hlt ⟨j, by rw [HU1.out]; exact hil, y, py, pr, hpy, hpr, HFA.out, HCB.out, HOY.out, HOR2.out, pz + k, by omega, by omega, by rw [HV.out, Int.toNat_natCast]; exact h⟩ HNO.out)
                    have HNX := Lib.hid (show ¬ AtvP l (sncB l ps) (befB l ps) r y v → ∀ q, pz ≤ q → q < pz + (k + 1) → ¬ AtvP l (sncB l ps) (befB l ps) r y (os.getD q 0).toNat from fun h q hq1 hq2 => by
                      by_cases e : q = pz + k
                      · rw [e, HV.out, Int.toNat_natCast]
                        exact h
                      · exact HNK.out q hq1 (by omega))
                    clear hcw hcs h1 h2 h3 h4 h5 h6 h7
                    obtain ⟨X1, hX1⟩ : ∃ X, (a1 && a2) = X := ⟨_, rfl⟩
                    obtain ⟨X2, hX2⟩ : ∃ X, (a3 && (a4 && a5)) = X := ⟨_, rfl⟩
                    obtain ⟨X3, hX3⟩ : ∃ X, (a6 && (a7 && a2)) = X := ⟨_, rfl⟩
                    rw [hX1, hX2, hX3] at HATV
                    have HX1 := Lib.hid hX1
                    have HX2 := Lib.hid hX2
                    have HX3 := Lib.hid hX3
                    clear hX1 hX2 hX3
                    by_cases hww : (cw && cs) = false
                    · have HNN := Lib.hid (HNX.out fun h => by
                        have q := HATV.out.1 h
                        cases cw <;> cases cs <;> simp_all)
                      cases cw
                      · go_wp2_with (go_at_call 68; (with_reducible refine (writes_n HCW _).mono ?_); rintro e w1 ⟨rfl, ⟨y4, rfl⟩⟩)
                        go_roundw
                        case rel => exact ⟨k + 1, int_eq (by omega), by omega, HNN, hP5.trans (by repeat' (first | exact Plus.refl _ | refine Plus.alloc ?_ _ | refine Plus.plus ?_ _ | refine Plus.drew ?_ | refine Plus.drewN ?_ _))⟩
                        case measure => simp [intOf]; omega
                      · cases cs
                        · go_wp2_with (go_at_call 68; (with_reducible refine (writes_n HCW _).mono ?_); rintro e w1 ⟨rfl, ⟨y4, rfl⟩⟩)
                          go_roundw
                          case rel => exact ⟨k + 1, int_eq (by omega), by omega, HNN, hP5.trans (by repeat' (first | exact Plus.refl _ | refine Plus.alloc ?_ _ | refine Plus.plus ?_ _ | refine Plus.drew ?_ | refine Plus.drewN ?_ _))⟩
                          case measure => simp [intOf]; omega
                        · exact absurd hww (by decide)
                    · obtain ⟨rfl, rfl⟩ : cw = true ∧ cs = true := by cases cw <;> cases cs <;> simp_all
                      clear hww
                      go_upto_region 18 with (go_at_call 68; (with_reducible refine (writes_n HCW _).mono ?_); rintro e w1 ⟨rfl, ⟨y4, rfl⟩⟩)
                      go_cut [88] (fun s88 wx => s88 = .bool X1 ∧ Plus W5 wx)
                      case first =>
                        cases a1
                        · obtain rfl := HX1.out
                          go_wp2_with (first | (go_at_call 21; (with_reducible refine (HQ1.out _ (hP15.trans (by repeat' (first | exact Plus.refl _ | refine Plus.alloc ?_ _ | refine Plus.plus ?_ _ | refine Plus.drew ?_ | refine Plus.drewN ?_ _)))).mono ?_); rintro e xw ⟨rfl, ⟨y5, rfl⟩⟩) | (go_at_call 22; (with_reducible refine (equal_n HE2 _).mono ?_); rintro e xw ⟨rfl, ⟨y6, rfl⟩⟩))
                          go_meet
                          exact ⟨rfl, (by repeat' (first | exact Plus.refl _ | refine Plus.alloc ?_ _ | refine Plus.plus ?_ _ | refine Plus.drew ?_ | refine Plus.drewN ?_ _))⟩
                        · cases a2
                          · obtain rfl := HX1.out
                            go_wp2_with (first | (go_at_call 21; (with_reducible refine (HQ1.out _ (hP15.trans (by repeat' (first | exact Plus.refl _ | refine Plus.alloc ?_ _ | refine Plus.plus ?_ _ | refine Plus.drew ?_ | refine Plus.drewN ?_ _)))).mono ?_); rintro e xw ⟨rfl, ⟨y5, rfl⟩⟩) | (go_at_call 22; (with_reducible refine (equal_n HE2 _).mono ?_); rintro e xw ⟨rfl, ⟨y6, rfl⟩⟩))
                            go_meet
                            exact ⟨rfl, (by repeat' (first | exact Plus.refl _ | refine Plus.alloc ?_ _ | refine Plus.plus ?_ _ | refine Plus.drew ?_ | refine Plus.drewN ?_ _))⟩
                          · obtain rfl := HX1.out
                            go_wp2_with (first | (go_at_call 21; (with_reducible refine (HQ1.out _ (hP15.trans (by repeat' (first | exact Plus.refl _ | refine Plus.alloc ?_ _ | refine Plus.plus ?_ _ | refine Plus.drew ?_ | refine Plus.drewN ?_ _)))).mono ?_); rintro e xw ⟨rfl, ⟨y5, rfl⟩⟩) | (go_at_call 22; (with_reducible refine (equal_n HE2 _).mono ?_); rintro e xw ⟨rfl, ⟨y6, rfl⟩⟩))
                            go_meet
                            exact ⟨rfl, (by repeat' (first | exact Plus.refl _ | refine Plus.alloc ?_ _ | refine Plus.plus ?_ _ | refine Plus.drew ?_ | refine Plus.drewN ?_ _))⟩
                      case rest =>
                        obtain ⟨rfl, ⟨xc, rfl⟩⟩ := hcut
                        cases X1
                        · go_upto_region 19 with fail
                          go_cut [98] (fun s98 wx => s98 = .bool X2 ∧ Plus W5 wx)
                          case first =>
                            cases a3
                            · obtain rfl := HX2.out
                              go_wp2_with (first | (go_at_call 21; (with_reducible refine (HQ3.out _ (hP15.trans (by repeat' (first | exact Plus.refl _ | refine Plus.alloc ?_ _ | refine Plus.plus ?_ _ | refine Plus.drew ?_ | refine Plus.drewN ?_ _)))).mono ?_); rintro e xw ⟨rfl, ⟨y5, rfl⟩⟩) | (go_at_call 22; (with_reducible refine (equal_n HE5 _).mono ?_); rintro e xw ⟨rfl, ⟨y6, rfl⟩⟩))
                              go_meet
                              exact ⟨rfl, (by repeat' (first | exact Plus.refl _ | refine Plus.alloc ?_ _ | refine Plus.plus ?_ _ | refine Plus.drew ?_ | refine Plus.drewN ?_ _))⟩
                            · cases a4
                              · obtain rfl := HX2.out
                                go_wp2_with (first | (go_at_call 21; (with_reducible refine (HQ3.out _ (hP15.trans (by repeat' (first | exact Plus.refl _ | refine Plus.alloc ?_ _ | refine Plus.plus ?_ _ | refine Plus.drew ?_ | refine Plus.drewN ?_ _)))).mono ?_); rintro e xw ⟨rfl, ⟨y5, rfl⟩⟩) | (go_at_call 22; (with_reducible refine (equal_n HE5 _).mono ?_); rintro e xw ⟨rfl, ⟨y6, rfl⟩⟩))
                                go_meet
                                exact ⟨rfl, (by repeat' (first | exact Plus.refl _ | refine Plus.alloc ?_ _ | refine Plus.plus ?_ _ | refine Plus.drew ?_ | refine Plus.drewN ?_ _))⟩
                              · cases a5
                                · obtain rfl := HX2.out
                                  go_wp2_with (first | (go_at_call 21; (with_reducible refine (HQ3.out _ (hP15.trans (by repeat' (first | exact Plus.refl _ | refine Plus.alloc ?_ _ | refine Plus.plus ?_ _ | refine Plus.drew ?_ | refine Plus.drewN ?_ _)))).mono ?_); rintro e xw ⟨rfl, ⟨y5, rfl⟩⟩) | (go_at_call 22; (with_reducible refine (equal_n HE5 _).mono ?_); rintro e xw ⟨rfl, ⟨y6, rfl⟩⟩))
                                  go_meet
                                  exact ⟨rfl, (by repeat' (first | exact Plus.refl _ | refine Plus.alloc ?_ _ | refine Plus.plus ?_ _ | refine Plus.drew ?_ | refine Plus.drewN ?_ _))⟩
                                · obtain rfl := HX2.out
                                  go_wp2_with (first | (go_at_call 21; (with_reducible refine (HQ3.out _ (hP15.trans (by repeat' (first | exact Plus.refl _ | refine Plus.alloc ?_ _ | refine Plus.plus ?_ _ | refine Plus.drew ?_ | refine Plus.drewN ?_ _)))).mono ?_); rintro e xw ⟨rfl, ⟨y5, rfl⟩⟩) | (go_at_call 22; (with_reducible refine (equal_n HE5 _).mono ?_); rintro e xw ⟨rfl, ⟨y6, rfl⟩⟩))
                                  go_meet
                                  exact ⟨rfl, (by repeat' (first | exact Plus.refl _ | refine Plus.alloc ?_ _ | refine Plus.plus ?_ _ | refine Plus.drew ?_ | refine Plus.drewN ?_ _))⟩
                          case rest =>
                            obtain ⟨rfl, ⟨xc, rfl⟩⟩ := hcut
                            cases X2
                            · go_upto_region 20 with fail
                              go_cut [112] (fun s112 wx => s112 = .bool X3 ∧ Plus W5 wx)
                              case first =>
                                cases a6
                                · obtain rfl := HX3.out
                                  go_wp2_with (first | (go_at_call 21; (with_reducible refine (HQ6.out _ (hP15.trans (by repeat' (first | exact Plus.refl _ | refine Plus.alloc ?_ _ | refine Plus.plus ?_ _ | refine Plus.drew ?_ | refine Plus.drewN ?_ _)))).mono ?_); rintro e xw ⟨rfl, ⟨y5, rfl⟩⟩) | (go_at_call 22; (with_reducible refine (equal_n HE2 _).mono ?_); rintro e xw ⟨rfl, ⟨y6, rfl⟩⟩))
                                  go_meet
                                  exact ⟨rfl, (by repeat' (first | exact Plus.refl _ | refine Plus.alloc ?_ _ | refine Plus.plus ?_ _ | refine Plus.drew ?_ | refine Plus.drewN ?_ _))⟩
                                · cases a7
                                  · obtain rfl := HX3.out
                                    go_wp2_with (first | (go_at_call 21; (with_reducible refine (HQ6.out _ (hP15.trans (by repeat' (first | exact Plus.refl _ | refine Plus.alloc ?_ _ | refine Plus.plus ?_ _ | refine Plus.drew ?_ | refine Plus.drewN ?_ _)))).mono ?_); rintro e xw ⟨rfl, ⟨y5, rfl⟩⟩) | (go_at_call 22; (with_reducible refine (equal_n HE2 _).mono ?_); rintro e xw ⟨rfl, ⟨y6, rfl⟩⟩))
                                    go_meet
                                    exact ⟨rfl, (by repeat' (first | exact Plus.refl _ | refine Plus.alloc ?_ _ | refine Plus.plus ?_ _ | refine Plus.drew ?_ | refine Plus.drewN ?_ _))⟩
                                  · cases a2
                                    · obtain rfl := HX3.out
                                      go_wp2_with (first | (go_at_call 21; (with_reducible refine (HQ6.out _ (hP15.trans (by repeat' (first | exact Plus.refl _ | refine Plus.alloc ?_ _ | refine Plus.plus ?_ _ | refine Plus.drew ?_ | refine Plus.drewN ?_ _)))).mono ?_); rintro e xw ⟨rfl, ⟨y5, rfl⟩⟩) | (go_at_call 22; (with_reducible refine (equal_n HE2 _).mono ?_); rintro e xw ⟨rfl, ⟨y6, rfl⟩⟩))
                                      go_meet
                                      exact ⟨rfl, (by repeat' (first | exact Plus.refl _ | refine Plus.alloc ?_ _ | refine Plus.plus ?_ _ | refine Plus.drew ?_ | refine Plus.drewN ?_ _))⟩
                                    · obtain rfl := HX3.out
                                      go_wp2_with (first | (go_at_call 21; (with_reducible refine (HQ6.out _ (hP15.trans (by repeat' (first | exact Plus.refl _ | refine Plus.alloc ?_ _ | refine Plus.plus ?_ _ | refine Plus.drew ?_ | refine Plus.drewN ?_ _)))).mono ?_); rintro e xw ⟨rfl, ⟨y5, rfl⟩⟩) | (go_at_call 22; (with_reducible refine (equal_n HE2 _).mono ?_); rintro e xw ⟨rfl, ⟨y6, rfl⟩⟩))
                                      go_meet
                                      exact ⟨rfl, (by repeat' (first | exact Plus.refl _ | refine Plus.alloc ?_ _ | refine Plus.plus ?_ _ | refine Plus.drew ?_ | refine Plus.drewN ?_ _))⟩
                              case rest =>
                                obtain ⟨rfl, ⟨xc, rfl⟩⟩ := hcut
                                cases X3
                                · have HNN := Lib.hid (HNX.out fun h => by cases HATV.out.1 h)
                                  go_wp2_with fail
                                  go_roundw
                                  case rel => exact ⟨k + 1, int_eq (by omega), by omega, HNN, hP5.trans (by repeat' (first | exact Plus.refl _ | refine Plus.alloc ?_ _ | refine Plus.plus ?_ _ | refine Plus.drew ?_ | refine Plus.drewN ?_ _))⟩
                                  case measure => simp [intOf]; omega
                                · have HZR := Lib.hid (HRT.out (HATV.out.2 rfl))
                                  go_wp2_with fail
                                  rw [Exit.noGoto_ret]
                                  go_wp2_with fail
                                  rw [Exit.noGoto_ret]
                                  go_wp2_with fail
                                  go_returns
                                  exact ⟨ret_i HZR.out.symm, hP1.trans (hP15.trans (by repeat' (first | exact Plus.refl _ | refine Plus.alloc ?_ _ | refine Plus.plus ?_ _ | refine Plus.drew ?_ | refine Plus.drewN ?_ _)))⟩
                            · have HZR := Lib.hid (HRT.out (HATV.out.2 rfl))
                              go_wp2_with fail
                              rw [Exit.noGoto_ret]
                              go_wp2_with fail
                              rw [Exit.noGoto_ret]
                              go_wp2_with fail
                              go_returns
                              exact ⟨ret_i HZR.out.symm, hP1.trans (hP15.trans (by repeat' (first | exact Plus.refl _ | refine Plus.alloc ?_ _ | refine Plus.plus ?_ _ | refine Plus.drew ?_ | refine Plus.drewN ?_ _)))⟩
                        · have HZR := Lib.hid (HRT.out (HATV.out.2 rfl))
                          go_wp2_with fail
                          rw [Exit.noGoto_ret]
                          go_wp2_with fail
                          rw [Exit.noGoto_ret]
                          go_wp2_with fail
                          go_returns
                          exact ⟨ret_i HZR.out.symm, hP1.trans (hP15.trans (by repeat' (first | exact Plus.refl _ | refine Plus.alloc ?_ _ | refine Plus.plus ?_ _ | refine Plus.drew ?_ | refine Plus.drewN ?_ _)))⟩
                  · obtain rfl : k = m3 := by omega
                    have HNN := Lib.hid (show ∀ q, q < j + 1 → ¬ AtiP l (sncB l ps) (befB l ps) os n r q from fun q hq h => by
                      by_cases e : q = j
                      · subst e
                        obtain ⟨y2, p, q2, _, hq2, h1, h2, h3, h4, k2, h5, h6, h7⟩ := h
                        rw [HFA.out] at h1
                        obtain rfl : y = y2 := by omega
                        obtain rfl : p = py := by
                          have q1 := HPL.out.2 p (by assumption)
                          have q2 := HPL.out.2 py hpy
                          rw [h3] at q1
                          rw [HOY.out] at q2
                          omega
                        obtain rfl : q2 = pr := by
                          have q1 := HPL.out.2 q2 hq2
                          have q3 := HPL.out.2 pr hpr
                          rw [h4] at q1
                          rw [HOR2.out] at q3
                          omega
                        exact HNK.out k2 (by omega) (by omega) h7
                      · exact HNI.out q (by omega) h)
                    go_wp2_with fail
                    rw [Exit.noGoto_normal]
                    go_wp2_with fail
                    go_roundw
                    case rel => exact ⟨j + 1, int_eq (by omega), by omega, HNN, hP3.trans (by repeat' (first | exact Plus.refl _ | refine Plus.alloc ?_ _ | refine Plus.plus ?_ _ | refine Plus.drew ?_ | refine Plus.drewN ?_ _))⟩
                    case measure => simp [intOf]; omega
          · obtain rfl : j = e1.f.length := by omega
            go_wp2_with fail
            rw [Exit.noGoto_normal]
            go_wp2_with fail
            go_roundw
            case rel => exact ⟨r + 1, int_eq (by omega), by omega, Lib.hid fun q hq => by
              by_cases e : q = r
              · subst e
                rintro ⟨u, hu1, hu2⟩
                rw [HU1.out] at hu1
                exact HNI.out u hu1 hu2
              · exact HNO.out q (by omega), hP2.trans (by repeat' (first | exact Plus.refl _ | refine Plus.alloc ?_ _ | refine Plus.plus ?_ _ | refine Plus.drew ?_ | refine Plus.drewN ?_ _))⟩
            case measure => simp [intOf]; omega
      · obtain rfl : r = n := by omega
        go_wp2_with fail
        go_returns
        exact ⟨ret_i (HZ.out.no HNO.out).symm, hP1.trans (by repeat' (first | exact Plus.refl _ | refine Plus.alloc ?_ _ | refine Plus.plus ?_ _ | refine Plus.drew ?_ | refine Plus.drewN ?_ _))⟩
set_option maxRecDepth 100000 in
set_option maxHeartbeats 4000000 in
theorem atomic_n {l : List Ev} {ps : List Pr} {A B : Option Addr} {n c m d : Nat} {K : Nat} {O : Option Addr} {os : List Int} {no co : Nat} (w : World) (hL : Lai w) (H : Lg w l ps A n c B m d) (HM0 : Hid (MayR l ps true)) (HMM : Hid (MayP l ps)) (HK : Hid (K = (n + 63) / 64)) (HO : Ar .i64 w O os no co) (HORD : Hid (¬ OrdP n (befB l ps) os)) : Calls Tryd.prog 31 #[.agg #[.slice A n c, .slice B m d], .slice O no co] w fun e w' => e = .returned (.int .i64 0) ∧ Plus w w' := by
  have HOR : Hid (OrdR n (befB l ps) os 0) := Lib.hid (.inr ⟨HORD.out, rfl⟩)
  have HLG := Lib.hid H
  have HLA := Lib.hid hL
  have HOS := Lib.hid HO
  clear H hL HO
  go_enter Tryd.func31, Tryd.ntmps31
  go_wp2_with (first | (go_at_call 29; (with_reducible refine (ordered_t _ (HLA.out.plus (by repeat' (first | exact Plus.refl _ | refine Plus.alloc ?_ _ | refine Plus.plus ?_ _ | refine Plus.drew ?_ | refine Plus.drewN ?_ _))) (HLG.out.plus (by repeat' (first | exact Plus.refl _ | refine Plus.alloc ?_ _ | refine Plus.plus ?_ _ | refine Plus.drew ?_ | refine Plus.drewN ?_ _))) HM0 HMM HK (HOS.out.plus (by repeat' (first | exact Plus.refl _ | refine Plus.alloc ?_ _ | refine Plus.plus ?_ _ | refine Plus.drew ?_ | refine Plus.drewN ?_ _))) HOR).mono ?_); rintro e xw ⟨rfl, ⟨x3, rfl⟩⟩))
  go_returns
  exact ⟨rfl, (by repeat' (first | exact Plus.refl _ | refine Plus.alloc ?_ _ | refine Plus.plus ?_ _ | refine Plus.drew ?_ | refine Plus.drewN ?_ _))⟩
set_option maxRecDepth 100000 in
set_option maxHeartbeats 4000000 in
theorem atomic_f {l : List Ev} {ps : List Pr} {A B : Option Addr} {n c m d : Nat} {O : Option Addr} {no co : Nat} (w : World) (H : Lg w l ps A n c B m d) (HM0 : Hid (MayR l ps false)) : Calls Tryd.prog 31 #[.agg #[.slice A n c, .slice B m d], .slice O no co] w fun e w' => e = .returned (.int .i64 0) ∧ Plus w w' := by
  have HLG := Lib.hid H
  clear H
  go_enter Tryd.func31, Tryd.ntmps31
  go_wp2_with (go_at_call 29; (with_reducible refine (ordered_f _ (HLG.out.plus (by repeat' (first | exact Plus.refl _ | refine Plus.alloc ?_ _ | refine Plus.plus ?_ _ | refine Plus.drew ?_ | refine Plus.drewN ?_ _))) HM0).mono ?_); rintro e xw ⟨rfl, ⟨x3, rfl⟩⟩)
  go_returns
  exact ⟨rfl, (by repeat' (first | exact Plus.refl _ | refine Plus.alloc ?_ _ | refine Plus.plus ?_ _ | refine Plus.drew ?_ | refine Plus.drewN ?_ _))⟩
end Go.Proofs.YtmfdlcicbiincaaDoor
