/- Walk of RelGoes. -/
import Derived.WalkKit
import Derived.WalkSpells
import Derived.WalkLawsBesides
import Derived.Handy
import Derived.Deep.RegionHeld3
import Derived.Deep.DeepCutAuto
import Derived.Deep.QuietTactic
import Derived.BigQuiet
import Derived.Lib.Hide
import Derived.KernelRfl
import Derived.WalkMore
import Derived.Deep.LoopGhost
import Derived.IntWalk
import Derived.Deep.RegionLaw
import Derived.RangeFuncBox
import Derived.Test.YtmpecnhmdjilkaaDoorF1
import Derived.Test.YtmpecnhmdjilkaaDoorK11
import Derived.Test.YtmpecnhmdjilkaaDoorL5m
import Derived.Test.YtmpecnhmdjilkaaDoorL6v
namespace Go.Proofs.YtmpecnhmdjilkaaDoor
open Go.RowKit


/-- What is made of a log: happens-before, synchronizes-with, reads-from. -/
def ThrR (w : World) (l : List Ev) (ps : List Pr) (n K : Nat) (A : Option Addr) (c : Nat) (B : Option Addr) (m d : Nat) (s3 s4 s5 : Value) (wx : World) : Prop := ∃ p1 p2 p3 B1 B2 B3 hs1 hs2 hs3, s3 = .pointer (some ⟨p1, 0, none⟩) ∧ s4 = .pointer (some ⟨p2, 0, none⟩) ∧ s5 = .pointer (some ⟨p3, 0, none⟩) ∧ Rl wx B1 p1 n K (befB l ps) hs1 ∧ Rl wx B2 p2 n K (sncB l ps) hs2 ∧ Rl wx B3 p3 n K (frmB l) hs3 ∧ Bx wx w.heap.size (.slice A n c) (.slice B m d) ∧ Plus w wx
set_option maxRecDepth 100000 in
set_option maxHeartbeats 16000000 in
theorem goes_t {l : List Ev} {ps : List Pr} {A B : Option Addr} {n c m d : Nat} {K : Nat} (w : World) (HK : Hid (K = (n + 63) / 64)) (HLA : Hid (Lai w)) (HLG : Hid (Lg w l ps A n c B m d)) (HM0 : Hid (MayR l ps true)) (HMM : Hid (MayP l ps)) : Calls Tryd.prog 5 #[.agg #[.slice A n c, .slice B m d]] w fun e w' => e = .returned (.bool true) ∧ Plus w w' := by
  have HLN := Lib.hid HLG.out.len.1
  go_enter Tryd.func5, Tryd.ntmps5
  go_wp2_with (first | (go_at_call 9; (with_reducible refine (first_c _ (HLA.out.plus (by repeat' (first | exact Plus.refl _ | refine Plus.alloc ?_ _ | refine Plus.plus ?_ _ | refine Plus.drew ?_ | refine Plus.drewN ?_ _)))).mono ?_); rintro e xw ⟨rfl, ⟨y0, rfl⟩⟩) | (go_at_call 10; (with_reducible refine (few_t _ (HLG.out.plus (by repeat' (first | exact Plus.refl _ | refine Plus.alloc ?_ _ | refine Plus.plus ?_ _ | refine Plus.drew ?_ | refine Plus.drewN ?_ _)))).mono ?_); rintro e xw ⟨bf, rfl, hbf, ⟨yf, rfl⟩⟩; have HBF := Lib.hid hbf; clear hbf))
  · go_returns
    exact ⟨rfl, (by repeat' (first | exact Plus.refl _ | refine Plus.alloc ?_ _ | refine Plus.plus ?_ _ | refine Plus.drew ?_ | refine Plus.drewN ?_ _))⟩
  · have hbf : bf = true := by cases bf <;> simp_all
    subst hbf
    obtain ⟨f1, f2, f3⟩ := HBF.out rfl
    have HSM := Lib.hid f3
    clear HBF f3
    go_cut [3, 4, 5] (fun s3 s4 s5 wx => ThrR w l ps n K A c B m d s3 s4 s5 wx)
    case first =>
      go_region_held3 (fun w' => w'.cell? ⟨w.heap.size, 0, none⟩ = some (.slice A n c) ∧ w'.cell? ⟨w.heap.size, 1, none⟩ = some (.slice B m d)) (refine ⟨?_, ?_⟩ <;> simp [go_sem]) (first | (go_at_call 17; (with_reducible refine (before_m _ (HLA.out.plus (by repeat' (first | exact Plus.refl _ | refine Plus.alloc ?_ _ | refine Plus.plus ?_ _ | refine Plus.drew ?_ | refine Plus.drewN ?_ _))) (HLG.out.plus (by repeat' (first | exact Plus.refl _ | refine Plus.alloc ?_ _ | refine Plus.plus ?_ _ | refine Plus.drew ?_ | refine Plus.drewN ?_ _))) HMM HK).mono ?_); rintro e xw ⟨p1, hs1, rfl, hR1, ⟨x1, rfl⟩⟩; have HR1 := Lib.hid hR1; clear hR1) | (go_at_call 15; (with_reducible refine (sync_m _ (HLA.out.plus (by repeat' (first | exact Plus.refl _ | refine Plus.alloc ?_ _ | refine Plus.plus ?_ _ | refine Plus.drew ?_ | refine Plus.drewN ?_ _))) (HLG.out.plus (by repeat' (first | exact Plus.refl _ | refine Plus.alloc ?_ _ | refine Plus.plus ?_ _ | refine Plus.drew ?_ | refine Plus.drewN ?_ _))) HMM HK).mono ?_); rintro e xw ⟨p2, hs2, rfl, hR2, ⟨x2, rfl⟩⟩; have HR2 := Lib.hid hR2; clear hR2) | (go_at_call 13; (with_reducible refine (from_m _ (HLG.out.plus (by repeat' (first | exact Plus.refl _ | refine Plus.alloc ?_ _ | refine Plus.plus ?_ _ | refine Plus.drew ?_ | refine Plus.drewN ?_ _))) HMM HK).mono ?_); rintro e xw ⟨p3, hs3, rfl, hR3, ⟨x3, rfl⟩⟩; have HR3 := Lib.hid hR3; clear hR3))
      all_goals go_wp2_with fail
      all_goals go_meet
      all_goals exact ⟨p1, p2, p3, _, _, _, hs1, hs2, hs3, rfl, rfl, rfl, HR1.out.plus (by repeat' (first | exact Plus.refl _ | refine Plus.alloc ?_ _ | refine Plus.plus ?_ _ | refine Plus.drew ?_ | refine Plus.drewN ?_ _)), HR2.out.plus (by repeat' (first | exact Plus.refl _ | refine Plus.alloc ?_ _ | refine Plus.plus ?_ _ | refine Plus.drew ?_ | refine Plus.drewN ?_ _)), HR3.out.plus (by repeat' (first | exact Plus.refl _ | refine Plus.alloc ?_ _ | refine Plus.plus ?_ _ | refine Plus.drew ?_ | refine Plus.drewN ?_ _)), (bx_new w _ _).plus (by repeat' (first | exact Plus.refl _ | refine Plus.alloc ?_ _ | refine Plus.plus ?_ _ | refine Plus.drew ?_ | refine Plus.drewN ?_ _)), (by repeat' (first | exact Plus.refl _ | refine Plus.alloc ?_ _ | refine Plus.plus ?_ _ | refine Plus.drew ?_ | refine Plus.drewN ?_ _))⟩
    case rest =>
      obtain ⟨p1, p2, p3, B1, B2, B3, hs1, hs2, hs3, rfl, rfl, rfl, hR1, hR2, hR3, hbx, hp⟩ := hcut
      obtain ⟨x9, rfl⟩ := hp
      have c0 := hbx.c0
      have c1 := hbx.c1
      have hbl := hbx.lt
      haveI : Old w.heap.size (plus w x9) := ⟨hbl⟩
      have HR1 := Lib.hid hR1
      have HR2 := Lib.hid hR2
      have HR3 := Lib.hid hR3
      have HBX := Lib.hid hbx
      clear hR1 hR2 hR3 hbx
      go_wp2_with (go_at_call 21; (with_reducible refine (may_s _ HM0 (HLG.out.plus (by repeat' (first | exact Plus.refl _ | refine Plus.alloc ?_ _ | refine Plus.plus ?_ _ | refine Plus.drew ?_ | refine Plus.drewN ?_ _)))).mono ?_); rintro e xw ⟨rfl, ⟨ym, rfl⟩⟩)
      have hkk : n ≤ 64 * K ∧ K ≤ 1000 := by rw [HK.out]; omega
      have QH : ∀ (x y : Nat), x < n → y < n → ∀ r, befB l ps x y = r → ∀ w', Plus (plus w x9) w' → Calls Tryd.prog 23 #[.pointer (some ⟨p1, 0, none⟩), .int .i64 x, .int .i64 y] w' fun e w2 => e = .returned (.bool r) ∧ Plus w' w2 := fun x y hx hy r hr w' hp => (has_t w' (HR1.out.plus hp) hkk.1 (by omega) hx hy hr).mono fun e w2 ⟨h1, h2⟩ => ⟨h1, by rw [h2]; exact Plus.refl _⟩
      have QS : ∀ (x y : Nat), x < n → y < n → ∀ r, sncB l ps x y = r → ∀ w', Plus (plus w x9) w' → Calls Tryd.prog 23 #[.pointer (some ⟨p2, 0, none⟩), .int .i64 x, .int .i64 y] w' fun e w2 => e = .returned (.bool r) ∧ Plus w' w2 := fun x y hx hy r hr w' hp => (has_t w' (HR2.out.plus hp) hkk.1 (by omega) hx hy hr).mono fun e w2 ⟨h1, h2⟩ => ⟨h1, by rw [h2]; exact Plus.refl _⟩
      have QF : ∀ (x y : Nat), x < n → y < n → ∀ r, frmB l x y = r → ∀ w', Plus (plus w x9) w' → Calls Tryd.prog 23 #[.pointer (some ⟨p3, 0, none⟩), .int .i64 x, .int .i64 y] w' fun e w2 => e = .returned (.bool r) ∧ Plus w' w2 := fun x y hx hy r hr w' hp => (has_t w' (HR3.out.plus hp) hkk.1 (by omega) hx hy hr).mono fun e w2 ⟨h1, h2⟩ => ⟨h1, by rw [h2]; exact Plus.refl _⟩
      have HQH := Lib.hid QH
      have HQS := Lib.hid QS
      have HQF := Lib.hid QF
      clear QH QS QF
      obtain ⟨rs, hrl, hes⟩ := HLG.out.ev
      have HES := Lib.hid hes
      have HRL := Lib.hid hrl
      have hcap := hes.cap
      have hmx := hes.max
      clear hes hrl
      go_loopw [7] (fun s7 wr => ∃ a : Nat, s7 = .int .i64 a ∧ a ≤ n ∧ Plus (plus w x9) wr) (fun s7 _ => ((n : Int) - intOf s7).toNat)
      case atStart => exact ⟨0, rfl, Nat.zero_le _, Plus.is ym⟩
      case round =>
        obtain ⟨a, rfl, ha, ⟨xa, rfl⟩⟩ := hrel
        by_cases hlt : a < n
        · go_wp2_with fail
          go_loopw [8] (fun s8 wr => ∃ b : Nat, s8 = .int .i64 b ∧ b ≤ n ∧ Plus (plus w x9) wr) (fun s8 _ => ((n : Int) - intOf s8).toNat)
          case atStart => exact ⟨0, rfl, Nat.zero_le _, Plus.is xa⟩
          case round =>
            obtain ⟨b, rfl, hb, ⟨xb, rfl⟩⟩ := hrel
            by_cases hlb : b < n
            · have hlt' : (a : Int) < n := by omega
              have hlb' : (b : Int) < n := by omega
              go_upto_region 17 with fail
              go_cut [9] (fun s9 wx => ∃ st, s9 = .bool st ∧ oneB l ps a b = st ∧ Plus (plus w x9) wx)
              case first =>
                obtain ⟨g, o, e1, rfl, hx1, hm1, _, q0, q1, q2, q3, q4, q5, q6, q7, q8, q9⟩ := (HES.out.plus ((Plus.is x9).trans (Plus.is xb))).at_ hlt
                obtain ⟨g', o', e2, hA, hx2, hm2, _, r0, r1, r2, r3, r4, r5, r6, r7, r8, r9⟩ := (HES.out.plus ((Plus.is x9).trans (Plus.is xb))).at_ hlb
                injection hA with hA
                injection hA with hg' ho' _
                subst hg' ho'
                have u1 := getD_map (show a < rs.length by rw [← HES.out.len]; exact hlt) hx1
                have u2 := getD_map (show b < rs.length by rw [← HES.out.len]; exact hlb) hx2
                rw [HRL.out] at u1 u2
                have hadd1 := add_addr g o (a * 10)
                have hadd2 := add_addr g o (b * 10)
                have lg : g < (plus (plus w x9) xb).heap.size := by
                  obtain ⟨g2, o2, e, q, _⟩ := (HES.out.plus ((Plus.is x9).trans (Plus.is xb))).rd (by rw [← HES.out.len]; omega)
                  injection e with e
                  injection e with e _ _
                  rw [e]
                  exact q
                haveI : Old g (plus (plus w x9) xb) := ⟨lg⟩
                clear q1 q2 q3 q4 q5 q6 q7 q8 q9 r1 r2 r3 r4 r5 r6 r7 r8 r9 hx1 hx2 hm1 hm2
                have hone : oneB l ps a b = (decide (a < b) && (decide (e1.e.g = e2.e.g) || sncB l ps a b)) := by unfold oneB; rw [u1, u2]
                have HONE := Lib.hid hone
                clear hone u1 u2
                by_cases hab : a < b
                · have hab' : (a : Int) < b := by omega
                  have HAB := Lib.hid hab
                  clear hab
                  by_cases hg : e1.e.g = e2.e.g
                  · rw [← hg] at r0
                    have HG := Lib.hid hg
                    clear hg
                    refine wp_region_plus (by kernel_rfl) (by kernel_rfl) ?_
                    repeat (go_big_quiet_step (fail))
                    refine wpQuiet_nil ?_
                    intro _ hw'
                    obtain ⟨x7, rfl⟩ := hw'
                    go_wp2_with fail
                    go_meet
                    exact ⟨true, rfl, by rw [HONE.out, HG.out]; simp [HAB.out], (by repeat' (first | exact Plus.refl _ | refine Plus.alloc ?_ _ | refine Plus.plus ?_ _ | refine Plus.drew ?_ | refine Plus.drewN ?_ _))⟩
                  · obtain ⟨rs', hrs⟩ : ∃ r, sncB l ps a b = r := ⟨_, rfl⟩
                    have Q := Lib.hid (HQS.out a b hlt hlb rs' hrs)
                    have HRS := Lib.hid hrs
                    have hgb : (e1.e.g == e2.e.g) = false := by simpa using hg
                    clear hrs
                    refine wp_region_plus (by kernel_rfl) (by kernel_rfl) ?_
                    repeat (go_big_quiet_step ((go_at_call 23; exact calls_plus (Q.out _ ((Plus.is xb).trans (Plus.is _))))))
                    refine wpQuiet_nil ?_
                    intro _ hw'
                    obtain ⟨x7, rfl⟩ := hw'
                    go_wp2_with fail
                    go_meet
                    exact ⟨rs', rfl, by rw [HONE.out, HRS.out]; simp [HAB.out, hg], (by repeat' (first | exact Plus.refl _ | refine Plus.alloc ?_ _ | refine Plus.plus ?_ _ | refine Plus.drew ?_ | refine Plus.drewN ?_ _))⟩
                · have hab' : ¬ (a : Int) < b := by omega
                  refine wp_region_plus (by kernel_rfl) (by kernel_rfl) ?_
                  repeat (go_big_quiet_step (fail))
                  refine wpQuiet_nil ?_
                  intro _ hw'
                  obtain ⟨x7, rfl⟩ := hw'
                  go_wp2_with fail
                  go_meet
                  exact ⟨false, rfl, by rw [HONE.out]; simp [hab], (by repeat' (first | exact Plus.refl _ | refine Plus.alloc ?_ _ | refine Plus.plus ?_ _ | refine Plus.drew ?_ | refine Plus.drewN ?_ _))⟩
              case rest =>
                obtain ⟨st, rfl, hst, ⟨xc, rfl⟩⟩ := hcut
                have HST := Lib.hid hst
                clear hst
                go_wp2_with fail
                go_loopw [10, 11] (fun s10 s11 wr => ∃ (k : Nat) (t : Bool), s11 = .int .i64 k ∧ k ≤ n ∧ s10 = .bool t ∧ thrB l ps a b k = t ∧ Plus (plus w x9) wr) (fun _ s11 _ => ((n : Int) - intOf s11).toNat)
                case atStart => exact ⟨0, false, rfl, Nat.zero_le _, rfl, rfl, Plus.is xc⟩
                case round =>
                  obtain ⟨k, t, rfl, hk, rfl, hth, ⟨xd, rfl⟩⟩ := hrel
                  have HTH := Lib.hid hth
                  clear hth
                  by_cases hlk : k < n
                  · cases t
                    · obtain ⟨r1, hr1⟩ : ∃ r1, befB l ps a k = r1 := ⟨_, rfl⟩
                      obtain ⟨r2, hr2⟩ : ∃ r2, befB l ps k b = r2 := ⟨_, rfl⟩
                      have Q1 := HQH.out a k hlt hlk r1 hr1
                      have Q2 := HQH.out k b hlk hlb r2 hr2
                      have Q3 := Q2
                      have HE := Lib.hid (show thrB l ps a b (k + 1) = (r1 && r2) by rw [thrB_succ, HTH.out, hr1, hr2]; rfl)
                      clear hr1 hr2
                      cases r1
                      · go_wp2_with (first | (go_at_call 23; (with_reducible refine (Q1 _ (by repeat' (first | exact Plus.refl _ | refine Plus.alloc ?_ _ | refine Plus.plus ?_ _ | refine Plus.drew ?_ | refine Plus.drewN ?_ _))).mono ?_); rintro e xw ⟨rfl, ⟨y1, rfl⟩⟩) | (go_at_call 23; (with_reducible refine (Q2 _ (by repeat' (first | exact Plus.refl _ | refine Plus.alloc ?_ _ | refine Plus.plus ?_ _ | refine Plus.drew ?_ | refine Plus.drewN ?_ _))).mono ?_); rintro e xw ⟨rfl, ⟨y2, rfl⟩⟩) | (go_at_call 23; (with_reducible refine (Q3 _ (by repeat' (first | exact Plus.refl _ | refine Plus.alloc ?_ _ | refine Plus.plus ?_ _ | refine Plus.drew ?_ | refine Plus.drewN ?_ _))).mono ?_); rintro e xw ⟨rfl, ⟨y3, rfl⟩⟩))
                        go_roundw
                        case rel => exact ⟨k + 1, _, int_eq (by omega), by omega, rfl, HE.out, (by repeat' (first | exact Plus.refl _ | refine Plus.alloc ?_ _ | refine Plus.plus ?_ _ | refine Plus.drew ?_ | refine Plus.drewN ?_ _))⟩
                        case measure => simp [intOf]; omega
                      · go_wp2_with (first | (go_at_call 23; (with_reducible refine (Q1 _ (by repeat' (first | exact Plus.refl _ | refine Plus.alloc ?_ _ | refine Plus.plus ?_ _ | refine Plus.drew ?_ | refine Plus.drewN ?_ _))).mono ?_); rintro e xw ⟨rfl, ⟨y1, rfl⟩⟩) | (go_at_call 23; (with_reducible refine (Q2 _ (by repeat' (first | exact Plus.refl _ | refine Plus.alloc ?_ _ | refine Plus.plus ?_ _ | refine Plus.drew ?_ | refine Plus.drewN ?_ _))).mono ?_); rintro e xw ⟨rfl, ⟨y2, rfl⟩⟩) | (go_at_call 23; (with_reducible refine (Q3 _ (by repeat' (first | exact Plus.refl _ | refine Plus.alloc ?_ _ | refine Plus.plus ?_ _ | refine Plus.drew ?_ | refine Plus.drewN ?_ _))).mono ?_); rintro e xw ⟨rfl, ⟨y3, rfl⟩⟩))
                        go_roundw
                        case rel => exact ⟨k + 1, _, int_eq (by omega), by omega, rfl, HE.out, (by repeat' (first | exact Plus.refl _ | refine Plus.alloc ?_ _ | refine Plus.plus ?_ _ | refine Plus.drew ?_ | refine Plus.drewN ?_ _))⟩
                        case measure => simp [intOf]; omega
                    · go_wp2_with fail
                      go_roundw
                      case rel => exact ⟨k + 1, _, int_eq (by omega), by omega, rfl, by rw [thrB_succ, HTH.out]; rfl, (by repeat' (first | exact Plus.refl _ | refine Plus.alloc ?_ _ | refine Plus.plus ?_ _ | refine Plus.drew ?_ | refine Plus.drewN ?_ _))⟩
                      case measure => simp [intOf]; omega
                  · obtain rfl : k = n := by omega
                    obtain ⟨r, hr⟩ : ∃ r, befB l ps a b = r := ⟨_, rfl⟩
                    obtain ⟨rf, hrf⟩ : ∃ rf, frmB l a b = rf := ⟨_, rfl⟩
                    have Q1 := HQH.out a b hlt hlb r hr
                    have Q2 := HQF.out a b hlt hlb rf hrf
                    have Q3 := Q2
                    have hrt : r = (st || t) := by
                      rw [← hr, bef_goes HMM.out (by rw [← HLN.out]; exact hlb), HST.out, ← HLN.out, HTH.out]
                    by_cases hab : a < b
                    · have hba : ¬ (b : Int) ≤ a := by omega
                      have hab' : (a : Int) < b := by omega
                      clear hr hrf hab
                      cases st <;> cases t <;> cases r <;> cases rf
                      all_goals try (exact absurd hrt (by decide))
                      all_goals clear hrt
                      all_goals go_wp2_with (first | (go_at_call 23; (with_reducible refine (Q1 _ (by repeat' (first | exact Plus.refl _ | refine Plus.alloc ?_ _ | refine Plus.plus ?_ _ | refine Plus.drew ?_ | refine Plus.drewN ?_ _))).mono ?_); rintro e xw ⟨rfl, ⟨y1, rfl⟩⟩) | (go_at_call 23; (with_reducible refine (Q2 _ (by repeat' (first | exact Plus.refl _ | refine Plus.alloc ?_ _ | refine Plus.plus ?_ _ | refine Plus.drew ?_ | refine Plus.drewN ?_ _))).mono ?_); rintro e xw ⟨rfl, ⟨y2, rfl⟩⟩) | (go_at_call 23; (with_reducible refine (Q3 _ (by repeat' (first | exact Plus.refl _ | refine Plus.alloc ?_ _ | refine Plus.plus ?_ _ | refine Plus.drew ?_ | refine Plus.drewN ?_ _))).mono ?_); rintro e xw ⟨rfl, ⟨y3, rfl⟩⟩))
                      all_goals go_roundw
                      all_goals first
                        | exact ⟨b + 1, int_eq (by omega), by omega, (by repeat' (first | exact Plus.refl _ | refine Plus.alloc ?_ _ | refine Plus.plus ?_ _ | refine Plus.drew ?_ | refine Plus.drewN ?_ _))⟩
                        | (simp [intOf]; omega)
                    · have hr0 : r = false := by
                        cases r
                        · rfl
                        · exact absurd (bef_lt HMM.out hr) hab
                      have hf0 : rf = false := by
                        cases rf
                        · rfl
                        · exact absurd (frm_fwd HMM.out hrf).1 hab
                      subst hr0 hf0
                      clear hr hrf
                      cases st <;> cases t
                      all_goals try (exact absurd hrt (by decide))
                      all_goals clear hrt
                      all_goals go_wp2_with (first | (go_at_call 23; (with_reducible refine (Q1 _ (by repeat' (first | exact Plus.refl _ | refine Plus.alloc ?_ _ | refine Plus.plus ?_ _ | refine Plus.drew ?_ | refine Plus.drewN ?_ _))).mono ?_); rintro e xw ⟨rfl, ⟨y1, rfl⟩⟩) | (go_at_call 23; (with_reducible refine (Q2 _ (by repeat' (first | exact Plus.refl _ | refine Plus.alloc ?_ _ | refine Plus.plus ?_ _ | refine Plus.drew ?_ | refine Plus.drewN ?_ _))).mono ?_); rintro e xw ⟨rfl, ⟨y2, rfl⟩⟩) | (go_at_call 23; (with_reducible refine (Q3 _ (by repeat' (first | exact Plus.refl _ | refine Plus.alloc ?_ _ | refine Plus.plus ?_ _ | refine Plus.drew ?_ | refine Plus.drewN ?_ _))).mono ?_); rintro e xw ⟨rfl, ⟨y3, rfl⟩⟩))
                      all_goals go_roundw
                      all_goals first
                        | exact ⟨b + 1, int_eq (by omega), by omega, (by repeat' (first | exact Plus.refl _ | refine Plus.alloc ?_ _ | refine Plus.plus ?_ _ | refine Plus.drew ?_ | refine Plus.drewN ?_ _))⟩
                        | (simp [intOf]; omega)
            · obtain rfl : b = n := by omega
              go_wp2_with fail
              go_roundw
              case rel => exact ⟨a + 1, int_eq (by omega), by omega, (by repeat' (first | exact Plus.refl _ | refine Plus.alloc ?_ _ | refine Plus.plus ?_ _ | refine Plus.drew ?_ | refine Plus.drewN ?_ _))⟩
              case measure => simp [intOf]; omega
        · obtain rfl : a = n := by omega
          go_wp2_with (first | (go_at_call 9; (with_reducible refine (first_c _ (HLA.out.plus (by repeat' (first | exact Plus.refl _ | refine Plus.alloc ?_ _ | refine Plus.plus ?_ _ | refine Plus.drew ?_ | refine Plus.drewN ?_ _)))).mono ?_); rintro e xw ⟨rfl, ⟨y0, rfl⟩⟩) | (go_at_call 22; (refine (len_r _ (HR1.out.plus (by repeat' (first | exact Plus.refl _ | refine Plus.alloc ?_ _ | refine Plus.plus ?_ _ | refine Plus.drew ?_ | refine Plus.drewN ?_ _)))).mono ?_); rintro e w' ⟨rfl, hw'⟩; rw [hw']; clear hw' w'))
          go_returns
          exact ⟨ret_bool (by simp), (by repeat' (first | exact Plus.refl _ | refine Plus.alloc ?_ _ | refine Plus.plus ?_ _ | refine Plus.drew ?_ | refine Plus.drewN ?_ _))⟩
set_option maxRecDepth 100000 in
set_option maxHeartbeats 4000000 in
theorem goes_f {l : List Ev} {ps : List Pr} {A B : Option Addr} {n c m d : Nat} (w : World) (HLA : Hid (Lai w)) (HLG : Hid (Lg w l ps A n c B m d)) (HM0 : Hid (MayR l ps false)) : Calls Tryd.prog 5 #[.agg #[.slice A n c, .slice B m d]] w fun e w' => e = .returned (.bool true) ∧ Plus w w' := by
  go_enter Tryd.func5, Tryd.ntmps5
  go_wp2_with (first | (go_at_call 9; (with_reducible refine (first_c _ (HLA.out.plus (by repeat' (first | exact Plus.refl _ | refine Plus.alloc ?_ _ | refine Plus.plus ?_ _ | refine Plus.drew ?_ | refine Plus.drewN ?_ _)))).mono ?_); rintro e xw ⟨rfl, ⟨y0, rfl⟩⟩) | (go_at_call 10; (with_reducible refine (few_t _ (HLG.out.plus (by repeat' (first | exact Plus.refl _ | refine Plus.alloc ?_ _ | refine Plus.plus ?_ _ | refine Plus.drew ?_ | refine Plus.drewN ?_ _)))).mono ?_); rintro e xw ⟨bf, rfl, hbf, ⟨yf, rfl⟩⟩; have HBF := Lib.hid hbf; clear hbf))
  · go_returns
    exact ⟨rfl, (by repeat' (first | exact Plus.refl _ | refine Plus.alloc ?_ _ | refine Plus.plus ?_ _ | refine Plus.drew ?_ | refine Plus.drewN ?_ _))⟩
  · have hbf : bf = true := by cases bf <;> simp_all
    subst hbf
    clear HBF
    go_cut [3, 4, 5] (fun s3 s4 s5 wx => ∃ p1 p2 p3 B1 hs1, s3 = .pointer (some ⟨p1, 0, none⟩) ∧ s4 = .pointer (some ⟨p2, 0, none⟩) ∧ s5 = .pointer (some ⟨p3, 0, none⟩) ∧ Rl wx B1 p1 0 0 (fun _ _ => false) hs1 ∧ Bx wx w.heap.size (.slice A n c) (.slice B m d) ∧ Plus w wx)
    case first =>
      go_region_held3 (fun w' => w'.cell? ⟨w.heap.size, 0, none⟩ = some (.slice A n c) ∧ w'.cell? ⟨w.heap.size, 1, none⟩ = some (.slice B m d)) (refine ⟨?_, ?_⟩ <;> simp [go_sem]) (first | (go_at_call 17; (with_reducible refine (before_i (K := 0) (R := fun _ _ => false) _ (HLA.out.plus (by repeat' (first | exact Plus.refl _ | refine Plus.alloc ?_ _ | refine Plus.plus ?_ _ | refine Plus.drew ?_ | refine Plus.drewN ?_ _))) (HLG.out.plus (by repeat' (first | exact Plus.refl _ | refine Plus.alloc ?_ _ | refine Plus.plus ?_ _ | refine Plus.drew ?_ | refine Plus.drewN ?_ _))) HM0).mono ?_); rintro e xw ⟨p1, hs1, rfl, hR1, ⟨x1, rfl⟩⟩; have HR1 := Lib.hid hR1; clear hR1) | (go_at_call 15; (with_reducible refine (sync_i (K := 0) (R := fun _ _ => false) _ (HLA.out.plus (by repeat' (first | exact Plus.refl _ | refine Plus.alloc ?_ _ | refine Plus.plus ?_ _ | refine Plus.drew ?_ | refine Plus.drewN ?_ _))) (HLG.out.plus (by repeat' (first | exact Plus.refl _ | refine Plus.alloc ?_ _ | refine Plus.plus ?_ _ | refine Plus.drew ?_ | refine Plus.drewN ?_ _))) HM0).mono ?_); rintro e xw ⟨p2, hs2, rfl, hR2, ⟨x2, rfl⟩⟩; have HR2 := Lib.hid hR2; clear hR2) | (go_at_call 13; (with_reducible refine (from_i (K := 0) (R := fun _ _ => false) _ (HLG.out.plus (by repeat' (first | exact Plus.refl _ | refine Plus.alloc ?_ _ | refine Plus.plus ?_ _ | refine Plus.drew ?_ | refine Plus.drewN ?_ _))) HM0).mono ?_); rintro e xw ⟨p3, hs3, rfl, hR3, ⟨x3, rfl⟩⟩; have HR3 := Lib.hid hR3; clear hR3))
      all_goals go_wp2_with fail
      all_goals go_meet
      all_goals exact ⟨p1, p2, p3, _, hs1, rfl, rfl, rfl, HR1.out.plus (by repeat' (first | exact Plus.refl _ | refine Plus.alloc ?_ _ | refine Plus.plus ?_ _ | refine Plus.drew ?_ | refine Plus.drewN ?_ _)), (bx_new w _ _).plus (by repeat' (first | exact Plus.refl _ | refine Plus.alloc ?_ _ | refine Plus.plus ?_ _ | refine Plus.drew ?_ | refine Plus.drewN ?_ _)), (by repeat' (first | exact Plus.refl _ | refine Plus.alloc ?_ _ | refine Plus.plus ?_ _ | refine Plus.drew ?_ | refine Plus.drewN ?_ _))⟩
    case rest =>
      obtain ⟨p1, p2, p3, B1, hs1, rfl, rfl, rfl, hR1, hbx, hp⟩ := hcut
      obtain ⟨x9, rfl⟩ := hp
      have c0 := hbx.c0
      have c1 := hbx.c1
      have hbl := hbx.lt
      haveI : Old w.heap.size (plus w x9) := ⟨hbl⟩
      have HR1 := Lib.hid hR1
      clear hR1 hbx
      have hp0 : ((prs (fun _ _ => false) 0 0).map toPr).length = 0 := rfl
      go_wp2_with (first | (go_at_call 21; (with_reducible refine (may_s _ HM0 (HLG.out.plus (by repeat' (first | exact Plus.refl _ | refine Plus.alloc ?_ _ | refine Plus.plus ?_ _ | refine Plus.drew ?_ | refine Plus.drewN ?_ _)))).mono ?_); rintro e xw ⟨rfl, ⟨ym, rfl⟩⟩) | (go_at_call 9; (with_reducible refine (first_c _ (HLA.out.plus (by repeat' (first | exact Plus.refl _ | refine Plus.alloc ?_ _ | refine Plus.plus ?_ _ | refine Plus.drew ?_ | refine Plus.drewN ?_ _)))).mono ?_); rintro e xw ⟨rfl, ⟨y0, rfl⟩⟩) | (go_at_call 22; (refine (len_r _ (HR1.out.plus (by repeat' (first | exact Plus.refl _ | refine Plus.alloc ?_ _ | refine Plus.plus ?_ _ | refine Plus.drew ?_ | refine Plus.drewN ?_ _)))).mono ?_); rintro e w' ⟨rfl, hw'⟩; rw [hw']; clear hw' w') | (go_at_call 19; (refine (list_c _ (HLA.out.plus (by repeat' (first | exact Plus.refl _ | refine Plus.alloc ?_ _ | refine Plus.plus ?_ _ | refine Plus.drew ?_ | refine Plus.drewN ?_ _))) (HR1.out.plus (by repeat' (first | exact Plus.refl _ | refine Plus.alloc ?_ _ | refine Plus.plus ?_ _ | refine Plus.drew ?_ | refine Plus.drewN ?_ _))) (by omega) (by omega)).mono ?_); rintro e w' ⟨D, cD, rfl, _, ⟨x2, rfl⟩⟩; rw [hp0]))
      go_returns
      exact ⟨rfl, (by repeat' (first | exact Plus.refl _ | refine Plus.alloc ?_ _ | refine Plus.plus ?_ _ | refine Plus.drew ?_ | refine Plus.drewN ?_ _))⟩
theorem goes_w {l : List Ev} {ps : List Pr} {A B : Option Addr} {n c m d : Nat} (w : World) (hL : Lai w) (H : Lg w l ps A n c B m d) : Calls Tryd.prog 5 #[.agg #[.slice A n c, .slice B m d]] w fun e w' => e = .returned (.bool true) ∧ Plus w w' := by
  by_cases h : MayP l ps
  · exact goes_t (K := (n + 63) / 64) w (Lib.hid rfl) (Lib.hid hL) (Lib.hid H) (Lib.hid ⟨fun _ => rfl, fun _ => h⟩) (Lib.hid h)
  · exact goes_f w (Lib.hid hL) (Lib.hid H) (Lib.hid ⟨fun q => absurd q h, fun q => by cases q⟩)
end Go.Proofs.YtmpecnhmdjilkaaDoor
