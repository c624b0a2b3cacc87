/- Walk of RelParts. -/
import Derived.WalkKit
import Derived.WalkSpells
import Derived.WalkLawsBesides
import Derived.Handy
import Derived.Deep.RegionHeld3
import Derived.Deep.DeepCutAuto
import Derived.Deep.QuietTactic
import Derived.BigQuiet
import Derived.Lib.Hide
import Derived.KernelRfl
import Derived.WalkMore
import Derived.Deep.LoopGhost
import Derived.IntWalk
import Derived.Deep.RegionLaw
import Derived.RangeFuncBox
import Derived.Test.YtmfdlcicbiincaaDoorF1
import Derived.Test.YtmfdlcicbiincaaDoorL7m
import Derived.Test.YtmfdlcicbiincaaDoorL6v
namespace Go.Proofs.YtmfdlcicbiincaaDoor
open Go.RowKit


/-- What is made of a log: reads-from and synchronizes-with. -/
def FrSn (w : World) (l : List Ev) (ps : List Pr) (n K : Nat) (A : Option Addr) (c : Nat) (B : Option Addr) (m d : Nat) (s2 s3 : Value) (wx : World) : Prop := ∃ p1 p2 B1 B2 hs1 hs2, s2 = .pointer (some ⟨p1, 0, none⟩) ∧ s3 = .pointer (some ⟨p2, 0, none⟩) ∧ Rl wx B1 p1 n K (frmB l) hs1 ∧ Rl wx B2 p2 n K (sncB l ps) hs2 ∧ Bx wx w.heap.size (.slice A n c) (.slice B m d) ∧ Plus w wx
set_option maxRecDepth 100000 in
set_option maxHeartbeats 16000000 in
theorem parts_t {l : List Ev} {ps : List Pr} {A B : Option Addr} {n c m d : Nat} {K : Nat} (w : World) (HK : Hid (K = (n + 63) / 64)) (HLA : Hid (Lai w)) (HLG : Hid (Lg w l ps A n c B m d)) (HM0 : Hid (MayR l ps true)) (HMM : Hid (MayP l ps)) : Calls Tryd.prog 4 #[.agg #[.slice A n c, .slice B m d]] w fun e w' => e = .returned (.bool true) ∧ Plus w w' := by
  have HLN := Lib.hid HLG.out.len
  go_enter Tryd.func4, Tryd.ntmps4
  go_wp2_with (first | (go_at_call 10; (with_reducible refine (first_c _ (HLA.out.plus (by repeat' (first | exact Plus.refl _ | refine Plus.alloc ?_ _ | refine Plus.plus ?_ _ | refine Plus.drew ?_ | refine Plus.drewN ?_ _)))).mono ?_); rintro e xw ⟨rfl, ⟨y0, rfl⟩⟩) | (go_at_call 11; (with_reducible refine (few_t _ (HLG.out.plus (by repeat' (first | exact Plus.refl _ | refine Plus.alloc ?_ _ | refine Plus.plus ?_ _ | refine Plus.drew ?_ | refine Plus.drewN ?_ _)))).mono ?_); rintro e xw ⟨bf, rfl, hbf, ⟨yf, rfl⟩⟩; have HBF := Lib.hid hbf; clear hbf) | (go_at_call 20; (with_reducible refine (may_s _ HM0 (HLG.out.plus (by repeat' (first | exact Plus.refl _ | refine Plus.alloc ?_ _ | refine Plus.plus ?_ _ | refine Plus.drew ?_ | refine Plus.drewN ?_ _)))).mono ?_); rintro e xw ⟨rfl, ⟨ym, rfl⟩⟩))
  · have hbf : bf = true := by cases bf <;> simp_all
    subst hbf
    obtain ⟨f1, f2, f3⟩ := HBF.out rfl
    clear HBF f3
    go_cut [3, 4] (fun s3 s4 wx => FrSn w l ps n K A c B m d s3 s4 wx)
    case first =>
      go_region_held3 (fun w' => w'.cell? ⟨w.heap.size, 0, none⟩ = some (.slice A n c) ∧ w'.cell? ⟨w.heap.size, 1, none⟩ = some (.slice B m d)) (refine ⟨?_, ?_⟩ <;> simp [go_sem]) (first | (go_at_call 14; (with_reducible refine (from_m _ (HLG.out.plus (by repeat' (first | exact Plus.refl _ | refine Plus.alloc ?_ _ | refine Plus.plus ?_ _ | refine Plus.drew ?_ | refine Plus.drewN ?_ _))) HMM HK).mono ?_); rintro e xw ⟨p1, hs1, rfl, hR1, ⟨x1, rfl⟩⟩; have HR1 := Lib.hid hR1; clear hR1) | (go_at_call 16; (with_reducible refine (sync_m _ (HLA.out.plus (by repeat' (first | exact Plus.refl _ | refine Plus.alloc ?_ _ | refine Plus.plus ?_ _ | refine Plus.drew ?_ | refine Plus.drewN ?_ _))) (HLG.out.plus (by repeat' (first | exact Plus.refl _ | refine Plus.alloc ?_ _ | refine Plus.plus ?_ _ | refine Plus.drew ?_ | refine Plus.drewN ?_ _))) HMM HK).mono ?_); rintro e xw ⟨p2, hs2, rfl, hR2, ⟨x2, rfl⟩⟩; have HR2 := Lib.hid hR2; clear hR2))
      all_goals go_wp2_with fail
      all_goals go_meet
      all_goals exact ⟨p1, p2, _, _, hs1, hs2, rfl, rfl, HR1.out.plus (by repeat' (first | exact Plus.refl _ | refine Plus.alloc ?_ _ | refine Plus.plus ?_ _ | refine Plus.drew ?_ | refine Plus.drewN ?_ _)), HR2.out.plus (by repeat' (first | exact Plus.refl _ | refine Plus.alloc ?_ _ | refine Plus.plus ?_ _ | refine Plus.drew ?_ | refine Plus.drewN ?_ _)), (bx_new w _ _).plus (by repeat' (first | exact Plus.refl _ | refine Plus.alloc ?_ _ | refine Plus.plus ?_ _ | refine Plus.drew ?_ | refine Plus.drewN ?_ _)), (by repeat' (first | exact Plus.refl _ | refine Plus.alloc ?_ _ | refine Plus.plus ?_ _ | refine Plus.drew ?_ | refine Plus.drewN ?_ _))⟩
    case rest =>
      obtain ⟨p1, p2, B1, B2, hs1, hs2, rfl, rfl, hR1, hR2, hbx, hp⟩ := hcut
      obtain ⟨x9, rfl⟩ := hp
      have c0 := hbx.c0
      have c1 := hbx.c1
      have hbl := hbx.lt
      haveI : Old w.heap.size (plus w x9) := ⟨hbl⟩
      have hkk : n ≤ 64 * K ∧ K ≤ 1000 := by rw [HK.out]; omega
      have QF : ∀ (x y : Nat), x < n → y < n → ∀ r, frmB l x y = r → ∀ w', Plus (plus w x9) w' → Calls Tryd.prog 21 #[.pointer (some ⟨p1, 0, none⟩), .int .i64 x, .int .i64 y] w' fun e w2 => e = .returned (.bool r) ∧ Plus w' w2 := fun x y hx hy r hr w' hp => (has_t w' (hR1.plus hp) hkk.1 (by omega) hx hy hr).mono fun e w2 ⟨h1, h2⟩ => ⟨h1, by rw [h2]; exact Plus.refl _⟩
      have QS : ∀ (x y : Nat), x < n → y < n → ∀ r, sncB l ps x y = r → ∀ w', Plus (plus w x9) w' → Calls Tryd.prog 21 #[.pointer (some ⟨p2, 0, none⟩), .int .i64 x, .int .i64 y] w' fun e w2 => e = .returned (.bool r) ∧ Plus w' w2 := fun x y hx hy r hr w' hp => (has_t w' (hR2.plus hp) hkk.1 (by omega) hx hy hr).mono fun e w2 ⟨h1, h2⟩ => ⟨h1, by rw [h2]; exact Plus.refl _⟩
      have HQF := Lib.hid QF
      have HQS := Lib.hid QS
      clear QF QS hR1 hR2 hbx
      obtain ⟨rs, hrl, hes⟩ := HLG.out.ev
      have HES := Lib.hid hes
      have HRL := Lib.hid hrl
      have HPA := Lib.hid HLG.out.pa
      have hcap := hes.cap
      have hmx := hes.max
      have hpc := HPA.out.cap
      have hpm := HPA.out.max
      clear hes hrl
      go_wp2_with fail
      go_loopw [5] (fun s5 wr => ∃ a : Nat, s5 = .int .i64 a ∧ a ≤ n ∧ Plus (plus w x9) wr) (fun s5 _ => ((n : Int) - intOf s5).toNat)
      case atStart => exact ⟨0, rfl, Nat.zero_le _, (by repeat' (first | exact Plus.refl _ | refine Plus.alloc ?_ _ | refine Plus.plus ?_ _ | refine Plus.drew ?_ | refine Plus.drewN ?_ _))⟩
      case round =>
        obtain ⟨a, rfl, ha, ⟨xa, rfl⟩⟩ := hrel
        by_cases hlt : a < n
        · go_wp2_with fail
          go_loopw [6] (fun s6 wr => ∃ b : Nat, s6 = .int .i64 b ∧ b ≤ n ∧ Plus (plus w x9) wr) (fun s6 _ => ((n : Int) - intOf s6).toNat)
          case atStart => exact ⟨0, rfl, Nat.zero_le _, Plus.is xa⟩
          case round =>
            obtain ⟨b, rfl, hb, ⟨xb, rfl⟩⟩ := hrel
            by_cases hlb : b < n
            · have hlt' : (a : Int) < n := by omega
              have hlb' : (b : Int) < n := by omega
              obtain ⟨g, o, x, rfl, hx, hxm, hM, _, _, _, _, _, _, _, _, _, q9⟩ := (HES.out.plus (Plus.is x9)).at_ hlb
              have hu := getD_map (show b < rs.length by rw [← HES.out.len]; exact hlb) hx
              rw [HRL.out] at hu
              have hM0 := HES.out.mem x hxm
              have lg' : g < (plus w x9).heap.size := by
                obtain ⟨g2, o2, e, q, _⟩ := (HES.out.plus (Plus.is x9)).rd (by rw [← HES.out.len]; omega)
                injection e with e
                injection e with e _ _
                rw [e]
                exact q
              haveI : Old g (plus w x9) := ⟨lg'⟩
              obtain ⟨⟨g1, k1, s1, t1, b1, a1, z1, xs1, us1, fs1⟩, R1, cr1, W1, cw1, F1, cf1⟩ := x
              simp only at q9 hM hM0 hu
              have HF := Lib.hid (show Ar .i64 w F1 fs1 fs1.length cf1 from hM0.ef)
              have hfc := hM.ef.cap
              have hfm := hM.ef.max
              have hadd := add_addr g o (b * 10)
              have HU := Lib.hid hu
              clear hM hM0 hu hxm hx
              go_wp2_with fail
              go_loopw [7, 9] (fun s7 s9 wr => ∃ (i : Nat) (t : Bool), s9 = .int .i64 i ∧ i ≤ fs1.length ∧ s7 = .bool t ∧ rdB fs1 a i = t ∧ Plus (plus w x9) wr) (fun _ s9 _ => ((fs1.length : Int) - intOf s9).toNat)
              case atStart => exact ⟨0, false, rfl, Nat.zero_le _, rfl, rfl, Plus.is xb⟩
              case round =>
                obtain ⟨i, t, rfl, hi, rfl, hth, ⟨xi, rfl⟩⟩ := hrel
                have HTH := Lib.hid hth
                clear hth
                by_cases hil : i < fs1.length
                · have hil' : (i : Int) < fs1.length := by omega
                  obtain ⟨gf, of, rfl, lf, hat2⟩ := (HF.out.rd.plus (Plus.is x9)) (by omega)
                  haveI : Old gf (plus w x9) := ⟨lf⟩
                  have hci := hat2 i hil
                  obtain ⟨f, hf⟩ : ∃ f, fs1.getD i 0 = f := ⟨_, rfl⟩
                  have hsu := rdB_succ (a := a) hil
                  rw [hf] at hci hsu
                  rw [HTH.out] at hsu
                  have HSU := Lib.hid hsu
                  have hadd2 := add_addr gf of i
                  clear hf hat2 hsu
                  cases t
                  · go_wp2_with fail
                    go_roundw
                    case rel => exact ⟨i + 1, _, int_eq (by omega), by omega, rfl, HSU.out, (by repeat' (first | exact Plus.refl _ | refine Plus.alloc ?_ _ | refine Plus.plus ?_ _ | refine Plus.drew ?_ | refine Plus.drewN ?_ _))⟩
                    case measure => simp [intOf]; omega
                  · go_wp2_with fail
                    go_roundw
                    case rel => exact ⟨i + 1, _, int_eq (by omega), by omega, rfl, HSU.out, (by repeat' (first | exact Plus.refl _ | refine Plus.alloc ?_ _ | refine Plus.plus ?_ _ | refine Plus.drew ?_ | refine Plus.drewN ?_ _))⟩
                    case measure => simp [intOf]; omega
                · obtain rfl : i = fs1.length := by omega
                  have hrd : frmB l a b = t := by
                    rw [← HTH.out, ← rdB_all (by rw [← HLN.out.1]; exact hlb), HU.out]
                  have HRD := Lib.hid hrd
                  clear hrd HTH
                  go_wp2_with fail
                  go_loopw [8, 10] (fun s8 s10 wr => ∃ (i : Nat) (t' : Bool), s10 = .int .i64 i ∧ i ≤ m ∧ s8 = .bool t' ∧ prB (ps.take i) a b = t' ∧ Plus (plus w x9) wr) (fun _ s10 _ => ((m : Int) - intOf s10).toNat)
                  case atStart => exact ⟨0, false, rfl, Nat.zero_le _, rfl, by simp [prB], Plus.is xi⟩
                  case round =>
                    obtain ⟨i, t', rfl, hi, rfl, hth, ⟨xp, rfl⟩⟩ := hrel
                    have HTH := Lib.hid hth
                    clear hth
                    by_cases him : i < m
                    · have him' : (i : Int) < m := by omega
                      have hip : i < ps.length := by rw [← HPA.out.len]; exact him
                      obtain ⟨gp, op, rfl, lp, hat⟩ := (HPA.out.rd.plus (Plus.is x9)) (by omega)
                      haveI : Old gp (plus w x9) := ⟨lp⟩
                      obtain ⟨v0, v1⟩ := hat i hip
                      have hsu := prB_succ (a := a) (b := b) hip
                      rw [HTH.out] at hsu
                      obtain ⟨⟨u0, u1⟩, hu⟩ : ∃ u, ps.getD i (0, 0) = u := ⟨_, rfl⟩
                      rw [hu] at v0 v1 hsu
                      simp only at v0 v1 hsu
                      have HSU := Lib.hid hsu
                      have hadd3 := add_addr gp op (i * 2)
                      clear hat hsu hu hip
                      cases t'
                      · by_cases e1 : u0 = a
                        · subst e1
                          go_wp2_with fail
                          go_roundw
                          case rel => exact ⟨i + 1, _, int_eq (by omega), by omega, rfl, by rw [HSU.out]; simp, (by repeat' (first | exact Plus.refl _ | refine Plus.alloc ?_ _ | refine Plus.plus ?_ _ | refine Plus.drew ?_ | refine Plus.drewN ?_ _))⟩
                          case measure => simp [intOf]; omega
                        · have e2 : (u0 == (a : Int)) = false := by simpa using e1
                          have HE2 := Lib.hid e2
                          go_wp2_with fail
                          go_roundw
                          case rel => exact ⟨i + 1, _, int_eq (by omega), by omega, rfl, by rw [HSU.out, HE2.out]; simp, (by repeat' (first | exact Plus.refl _ | refine Plus.alloc ?_ _ | refine Plus.plus ?_ _ | refine Plus.drew ?_ | refine Plus.drewN ?_ _))⟩
                          case measure => simp [intOf]; omega
                      · go_wp2_with fail
                        go_roundw
                        case rel => exact ⟨i + 1, _, int_eq (by omega), by omega, rfl, by rw [HSU.out]; simp, (by repeat' (first | exact Plus.refl _ | refine Plus.alloc ?_ _ | refine Plus.plus ?_ _ | refine Plus.drew ?_ | refine Plus.drewN ?_ _))⟩
                        case measure => simp [intOf]; omega
                    · obtain rfl : i = m := by omega
                      have hpr : prB ps a b = t' := by
                        rw [← HTH.out, HLN.out.2, List.take_length]
                      have HPR := Lib.hid hpr
                      clear hpr HTH
                      go_upto_region 23 with fail
                      clear q9
                      obtain ⟨g2', o2', e2, hA2, hx2, hm2, hM2, r0, r1, r2, r3, r4, r5, r6, r7, r8, r9⟩ := (HES.out.plus ((Plus.is x9).trans (Plus.is xp))).at_ hlt
                      injection hA2 with hA2
                      injection hA2 with hg2 ho2 _
                      subst hg2 ho2
                      have u2 := getD_map (show a < rs.length by rw [← HES.out.len]; exact hlt) hx2
                      rw [HRL.out] at u2
                      have hadd2 := add_addr g o (a * 10)
                      obtain ⟨e2, R2, cr2, X2, cw2, F2, cf2⟩ := e2
                      simp only at r0 r1 r2 r3 r4 r5 r6 r7 r8 r9 u2
                      clear hx2 hm2 hM2
                      obtain ⟨g3', o3', e3, hA3, hx3, hm3, hM3, q0, q1, q2, q3, q4, q5, q6, q7, q8, q9⟩ := (HES.out.plus ((Plus.is x9).trans (Plus.is xp))).at_ hlb
                      injection hA3 with hA3
                      injection hA3 with hg3 ho3 _
                      subst hg3 ho3
                      have u3 := getD_map (show b < rs.length by rw [← HES.out.len]; exact hlb) hx3
                      rw [HRL.out] at u3
                      have hadd3 := add_addr g o (b * 10)
                      obtain ⟨e3, R3, cr3, X3, cw3, F3, cf3⟩ := e3
                      simp only at q0 q1 q2 q3 q4 q5 q6 q7 q8 q9 u3
                      clear hx3 hm3 hM3
                      haveI : Old g (plus (plus w x9) xp) := ⟨Nat.lt_of_lt_of_le lg' (Plus.is (w := plus w x9) xp).below.size⟩
                      obtain ⟨sx, hsx⟩ : ∃ v, e2.s = v := ⟨_, rfl⟩
                      obtain ⟨sy, hsy⟩ : ∃ v, e3.s = v := ⟨_, rfl⟩
                      obtain ⟨ee, hee⟩ : ∃ v, equalM e2.k e2.b e2.a e2.z e3.k e3.b e3.a e3.z = v := ⟨_, rfl⟩
                      obtain ⟨rs', hrs⟩ : ∃ v, sncB l ps a b = v := ⟨_, rfl⟩
                      have HSN := Lib.hid (show ((t && (sx && (sy && ee))) || t') = rs' by
                        rw [← hrs, ← HRD.out, ← HPR.out, ← hsx, ← hsy, ← hee]
                        unfold sncB synB
                        rw [u2, u3]
                        rfl)
                      have HSX := Lib.hid hsx
                      have HSY := Lib.hid hsy
                      have HEE := Lib.hid hee
                      have Q1 := Lib.hid (HQF.out a b hlt hlb t HRD.out)
                      have Q2 := Lib.hid (HQS.out a b hlt hlb rs' hrs)
                      clear hsx hsy hee hrs u2 u3
                      go_cut [11, 12] (fun s11 s12 wx => ∃ b1 b2, s11 = .pointer (some ⟨b1, 0, none⟩) ∧ s12 = .pointer (some ⟨b2, 0, none⟩) ∧ BxE wx b1 ⟨e2, R2, cr2, X2, cw2, F2, cf2⟩ ∧ BxE wx b2 ⟨e3, R3, cr3, X3, cw3, F3, cf3⟩ ∧ Plus (plus (plus w x9) xp) wx)
                      case first =>
                        go_region
                        all_goals go_wp2_with fail
                        all_goals go_meet
                        · exact ⟨_, _, rfl, rfl, (BxE.new (plus (plus w x9) xp) ⟨e2, R2, cr2, X2, cw2, F2, cf2⟩ _ (by simp [go_sem])).plus (by repeat' (first | exact Plus.refl _ | refine Plus.alloc ?_ _ | refine Plus.plus ?_ _ | refine Plus.drew ?_ | refine Plus.drewN ?_ _)), (BxE.new ((plus (plus w x9) xp).alloc (.cells (evL ⟨e2, R2, cr2, X2, cw2, F2, cf2⟩).toArray 42)) ⟨e3, R3, cr3, X3, cw3, F3, cf3⟩ _ (by simp [go_sem])).plus (by repeat' (first | exact Plus.refl _ | refine Plus.alloc ?_ _ | refine Plus.plus ?_ _ | refine Plus.drew ?_ | refine Plus.drewN ?_ _)), (by repeat' (first | exact Plus.refl _ | refine Plus.alloc ?_ _ | refine Plus.plus ?_ _ | refine Plus.drew ?_ | refine Plus.drewN ?_ _))⟩
                        · exact ⟨_, _, rfl, rfl, (BxE.new ((plus (plus w x9) xp).alloc (.cells (evL ⟨e3, R3, cr3, X3, cw3, F3, cf3⟩).toArray 42)) ⟨e2, R2, cr2, X2, cw2, F2, cf2⟩ _ (by simp [go_sem])).plus (by repeat' (first | exact Plus.refl _ | refine Plus.alloc ?_ _ | refine Plus.plus ?_ _ | refine Plus.drew ?_ | refine Plus.drewN ?_ _)), (BxE.new (plus (plus w x9) xp) ⟨e3, R3, cr3, X3, cw3, F3, cf3⟩ _ (by simp [go_sem])).plus (by repeat' (first | exact Plus.refl _ | refine Plus.alloc ?_ _ | refine Plus.plus ?_ _ | refine Plus.drew ?_ | refine Plus.drewN ?_ _)), (by repeat' (first | exact Plus.refl _ | refine Plus.alloc ?_ _ | refine Plus.plus ?_ _ | refine Plus.drew ?_ | refine Plus.drewN ?_ _))⟩
                      case rest =>
                        obtain ⟨b1, b2, rfl, rfl, hB1, hB2, ⟨xz, rfl⟩⟩ := hcut
                        obtain ⟨ea0, ea1, ea2, ea3, ea4, ea5, ea6, ea7, ea8, ea9⟩ := hB1.cells
                        obtain ⟨eb0, eb1, eb2, eb3, eb4, eb5, eb6, eb7, eb8, eb9⟩ := hB2.cells
                        simp only at ea0 ea1 ea2 ea3 ea4 ea5 ea6 ea7 ea8 ea9 eb0 eb1 eb2 eb3 eb4 eb5 eb6 eb7 eb8 eb9
                        rw [HSX.out] at ea2
                        rw [HSY.out] at eb2
                        haveI : Old b1 (plus (plus (plus w x9) xp) xz) := ⟨hB1.lt⟩
                        haveI : Old b2 (plus (plus (plus w x9) xp) xz) := ⟨hB2.lt⟩
                        have hPz : Plus (plus w x9) (plus (plus (plus w x9) xp) xz) := (by repeat' (first | exact Plus.refl _ | refine Plus.alloc ?_ _ | refine Plus.plus ?_ _ | refine Plus.drew ?_ | refine Plus.drewN ?_ _))
                        clear hB1 hB2 q0 q1 q2 q3 q4 q5 q6 q7 q8 q9 r0 r1 r2 r3 r4 r5 r6 r7 r8 r9
                        cases t'
                        · cases t
                          · obtain rfl := HSN.out
                            go_wp2_with (first | (go_at_call 21; first | ((with_reducible refine (Q1.out _ (hPz.trans (by repeat' (first | exact Plus.refl _ | refine Plus.alloc ?_ _ | refine Plus.plus ?_ _ | refine Plus.drew ?_ | refine Plus.drewN ?_ _)))).mono ?_); rintro e xw ⟨rfl, ⟨z1, rfl⟩⟩) | ((with_reducible refine (Q2.out _ (hPz.trans (by repeat' (first | exact Plus.refl _ | refine Plus.alloc ?_ _ | refine Plus.plus ?_ _ | refine Plus.drew ?_ | refine Plus.drewN ?_ _)))).mono ?_); rintro e xw ⟨rfl, ⟨z2, rfl⟩⟩)) | (go_at_call 22; (with_reducible refine (equal_n HEE _).mono ?_); rintro e xw ⟨rfl, ⟨z3, rfl⟩⟩))
                            go_roundw
                            case rel => exact ⟨b + 1, int_eq (by omega), by omega, (by repeat' (first | exact Plus.refl _ | refine Plus.alloc ?_ _ | refine Plus.plus ?_ _ | refine Plus.drew ?_ | refine Plus.drewN ?_ _))⟩
                            case measure => simp [intOf]; omega
                          · cases sx
                            · obtain rfl := HSN.out
                              go_wp2_with (first | (go_at_call 21; first | ((with_reducible refine (Q1.out _ (hPz.trans (by repeat' (first | exact Plus.refl _ | refine Plus.alloc ?_ _ | refine Plus.plus ?_ _ | refine Plus.drew ?_ | refine Plus.drewN ?_ _)))).mono ?_); rintro e xw ⟨rfl, ⟨z1, rfl⟩⟩) | ((with_reducible refine (Q2.out _ (hPz.trans (by repeat' (first | exact Plus.refl _ | refine Plus.alloc ?_ _ | refine Plus.plus ?_ _ | refine Plus.drew ?_ | refine Plus.drewN ?_ _)))).mono ?_); rintro e xw ⟨rfl, ⟨z2, rfl⟩⟩)) | (go_at_call 22; (with_reducible refine (equal_n HEE _).mono ?_); rintro e xw ⟨rfl, ⟨z3, rfl⟩⟩))
                              go_roundw
                              case rel => exact ⟨b + 1, int_eq (by omega), by omega, (by repeat' (first | exact Plus.refl _ | refine Plus.alloc ?_ _ | refine Plus.plus ?_ _ | refine Plus.drew ?_ | refine Plus.drewN ?_ _))⟩
                              case measure => simp [intOf]; omega
                            · cases sy
                              · obtain rfl := HSN.out
                                go_wp2_with (first | (go_at_call 21; first | ((with_reducible refine (Q1.out _ (hPz.trans (by repeat' (first | exact Plus.refl _ | refine Plus.alloc ?_ _ | refine Plus.plus ?_ _ | refine Plus.drew ?_ | refine Plus.drewN ?_ _)))).mono ?_); rintro e xw ⟨rfl, ⟨z1, rfl⟩⟩) | ((with_reducible refine (Q2.out _ (hPz.trans (by repeat' (first | exact Plus.refl _ | refine Plus.alloc ?_ _ | refine Plus.plus ?_ _ | refine Plus.drew ?_ | refine Plus.drewN ?_ _)))).mono ?_); rintro e xw ⟨rfl, ⟨z2, rfl⟩⟩)) | (go_at_call 22; (with_reducible refine (equal_n HEE _).mono ?_); rintro e xw ⟨rfl, ⟨z3, rfl⟩⟩))
                                go_roundw
                                case rel => exact ⟨b + 1, int_eq (by omega), by omega, (by repeat' (first | exact Plus.refl _ | refine Plus.alloc ?_ _ | refine Plus.plus ?_ _ | refine Plus.drew ?_ | refine Plus.drewN ?_ _))⟩
                                case measure => simp [intOf]; omega
                              · cases ee
                                · obtain rfl := HSN.out
                                  go_wp2_with (first | (go_at_call 21; first | ((with_reducible refine (Q1.out _ (hPz.trans (by repeat' (first | exact Plus.refl _ | refine Plus.alloc ?_ _ | refine Plus.plus ?_ _ | refine Plus.drew ?_ | refine Plus.drewN ?_ _)))).mono ?_); rintro e xw ⟨rfl, ⟨z1, rfl⟩⟩) | ((with_reducible refine (Q2.out _ (hPz.trans (by repeat' (first | exact Plus.refl _ | refine Plus.alloc ?_ _ | refine Plus.plus ?_ _ | refine Plus.drew ?_ | refine Plus.drewN ?_ _)))).mono ?_); rintro e xw ⟨rfl, ⟨z2, rfl⟩⟩)) | (go_at_call 22; (with_reducible refine (equal_n HEE _).mono ?_); rintro e xw ⟨rfl, ⟨z3, rfl⟩⟩))
                                  go_roundw
                                  case rel => exact ⟨b + 1, int_eq (by omega), by omega, (by repeat' (first | exact Plus.refl _ | refine Plus.alloc ?_ _ | refine Plus.plus ?_ _ | refine Plus.drew ?_ | refine Plus.drewN ?_ _))⟩
                                  case measure => simp [intOf]; omega
                                · obtain rfl := HSN.out
                                  go_wp2_with (first | (go_at_call 21; first | ((with_reducible refine (Q1.out _ (hPz.trans (by repeat' (first | exact Plus.refl _ | refine Plus.alloc ?_ _ | refine Plus.plus ?_ _ | refine Plus.drew ?_ | refine Plus.drewN ?_ _)))).mono ?_); rintro e xw ⟨rfl, ⟨z1, rfl⟩⟩) | ((with_reducible refine (Q2.out _ (hPz.trans (by repeat' (first | exact Plus.refl _ | refine Plus.alloc ?_ _ | refine Plus.plus ?_ _ | refine Plus.drew ?_ | refine Plus.drewN ?_ _)))).mono ?_); rintro e xw ⟨rfl, ⟨z2, rfl⟩⟩)) | (go_at_call 22; (with_reducible refine (equal_n HEE _).mono ?_); rintro e xw ⟨rfl, ⟨z3, rfl⟩⟩))
                                  go_roundw
                                  case rel => exact ⟨b + 1, int_eq (by omega), by omega, (by repeat' (first | exact Plus.refl _ | refine Plus.alloc ?_ _ | refine Plus.plus ?_ _ | refine Plus.drew ?_ | refine Plus.drewN ?_ _))⟩
                                  case measure => simp [intOf]; omega
                        · cases t
                          · obtain rfl := HSN.out
                            go_wp2_with (first | (go_at_call 21; first | ((with_reducible refine (Q1.out _ (hPz.trans (by repeat' (first | exact Plus.refl _ | refine Plus.alloc ?_ _ | refine Plus.plus ?_ _ | refine Plus.drew ?_ | refine Plus.drewN ?_ _)))).mono ?_); rintro e xw ⟨rfl, ⟨z1, rfl⟩⟩) | ((with_reducible refine (Q2.out _ (hPz.trans (by repeat' (first | exact Plus.refl _ | refine Plus.alloc ?_ _ | refine Plus.plus ?_ _ | refine Plus.drew ?_ | refine Plus.drewN ?_ _)))).mono ?_); rintro e xw ⟨rfl, ⟨z2, rfl⟩⟩)) | (go_at_call 22; (with_reducible refine (equal_n HEE _).mono ?_); rintro e xw ⟨rfl, ⟨z3, rfl⟩⟩))
                            go_roundw
                            case rel => exact ⟨b + 1, int_eq (by omega), by omega, (by repeat' (first | exact Plus.refl _ | refine Plus.alloc ?_ _ | refine Plus.plus ?_ _ | refine Plus.drew ?_ | refine Plus.drewN ?_ _))⟩
                            case measure => simp [intOf]; omega
                          · obtain rfl : true = rs' := by
                              rw [← HSN.out]
                              simp
                            go_wp2_with (first | (go_at_call 21; first | ((with_reducible refine (Q1.out _ (hPz.trans (by repeat' (first | exact Plus.refl _ | refine Plus.alloc ?_ _ | refine Plus.plus ?_ _ | refine Plus.drew ?_ | refine Plus.drewN ?_ _)))).mono ?_); rintro e xw ⟨rfl, ⟨z1, rfl⟩⟩) | ((with_reducible refine (Q2.out _ (hPz.trans (by repeat' (first | exact Plus.refl _ | refine Plus.alloc ?_ _ | refine Plus.plus ?_ _ | refine Plus.drew ?_ | refine Plus.drewN ?_ _)))).mono ?_); rintro e xw ⟨rfl, ⟨z2, rfl⟩⟩)) | (go_at_call 22; (with_reducible refine (equal_n HEE _).mono ?_); rintro e xw ⟨rfl, ⟨z3, rfl⟩⟩))
                            go_roundw
                            case rel => exact ⟨b + 1, int_eq (by omega), by omega, (by repeat' (first | exact Plus.refl _ | refine Plus.alloc ?_ _ | refine Plus.plus ?_ _ | refine Plus.drew ?_ | refine Plus.drewN ?_ _))⟩
                            case measure => simp [intOf]; omega
            · obtain rfl : b = n := by omega
              go_wp2_with fail
              go_roundw
              case rel => exact ⟨a + 1, int_eq (by omega), by omega, (by repeat' (first | exact Plus.refl _ | refine Plus.alloc ?_ _ | refine Plus.plus ?_ _ | refine Plus.drew ?_ | refine Plus.drewN ?_ _))⟩
              case measure => simp [intOf]; omega
        · obtain rfl : a = n := by omega
          go_wp2_with (go_at_call 10; (with_reducible refine (first_c _ (HLA.out.plus (by repeat' (first | exact Plus.refl _ | refine Plus.alloc ?_ _ | refine Plus.plus ?_ _ | refine Plus.drew ?_ | refine Plus.drewN ?_ _)))).mono ?_); rintro e xw ⟨rfl, ⟨y0, rfl⟩⟩)
          go_returns
          exact ⟨ret_bool (by simp), (by repeat' (first | exact Plus.refl _ | refine Plus.alloc ?_ _ | refine Plus.plus ?_ _ | refine Plus.drew ?_ | refine Plus.drewN ?_ _))⟩
  · go_returns
    exact ⟨rfl, (by repeat' (first | exact Plus.refl _ | refine Plus.alloc ?_ _ | refine Plus.plus ?_ _ | refine Plus.drew ?_ | refine Plus.drewN ?_ _))⟩
set_option maxRecDepth 100000 in
set_option maxHeartbeats 4000000 in
theorem parts_f {l : List Ev} {ps : List Pr} {A B : Option Addr} {n c m d : Nat} (w : World) (HLA : Hid (Lai w)) (HLG : Hid (Lg w l ps A n c B m d)) (HM0 : Hid (MayR l ps false)) : Calls Tryd.prog 4 #[.agg #[.slice A n c, .slice B m d]] w fun e w' => e = .returned (.bool true) ∧ Plus w w' := by
  go_enter Tryd.func4, Tryd.ntmps4
  go_wp2_with (first | (go_at_call 10; (with_reducible refine (first_c _ (HLA.out.plus (by repeat' (first | exact Plus.refl _ | refine Plus.alloc ?_ _ | refine Plus.plus ?_ _ | refine Plus.drew ?_ | refine Plus.drewN ?_ _)))).mono ?_); rintro e xw ⟨rfl, ⟨y0, rfl⟩⟩) | (go_at_call 11; (with_reducible refine (few_t _ (HLG.out.plus (by repeat' (first | exact Plus.refl _ | refine Plus.alloc ?_ _ | refine Plus.plus ?_ _ | refine Plus.drew ?_ | refine Plus.drewN ?_ _)))).mono ?_); rintro e xw ⟨bf, rfl, hbf, ⟨yf, rfl⟩⟩; have HBF := Lib.hid hbf; clear hbf) | (go_at_call 20; (with_reducible refine (may_s _ HM0 (HLG.out.plus (by repeat' (first | exact Plus.refl _ | refine Plus.alloc ?_ _ | refine Plus.plus ?_ _ | refine Plus.drew ?_ | refine Plus.drewN ?_ _)))).mono ?_); rintro e xw ⟨rfl, ⟨ym, rfl⟩⟩))
  all_goals go_returns
  all_goals exact ⟨rfl, (by repeat' (first | exact Plus.refl _ | refine Plus.alloc ?_ _ | refine Plus.plus ?_ _ | refine Plus.drew ?_ | refine Plus.drewN ?_ _))⟩
theorem parts_w {l : List Ev} {ps : List Pr} {A B : Option Addr} {n c m d : Nat} (w : World) (hL : Lai w) (H : Lg w l ps A n c B m d) : Calls Tryd.prog 4 #[.agg #[.slice A n c, .slice B m d]] w fun e w' => e = .returned (.bool true) ∧ Plus w w' := by
  by_cases h : MayP l ps
  · exact parts_t (K := (n + 63) / 64) w (Lib.hid rfl) (Lib.hid hL) (Lib.hid H) (Lib.hid ⟨fun _ => rfl, fun _ => h⟩) (Lib.hid h)
  · exact parts_f w (Lib.hid hL) (Lib.hid H) (Lib.hid ⟨fun q => absurd q h, fun q => by cases q⟩)
end Go.Proofs.YtmfdlcicbiincaaDoor
