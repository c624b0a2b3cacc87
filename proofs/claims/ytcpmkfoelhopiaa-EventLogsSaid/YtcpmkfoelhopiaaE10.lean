/- EqualFunc, Same. -/
import Derived.WalkKit
import Derived.WalkSpells
import Derived.WalkLawsBesides
import Derived.Handy
import Derived.Deep.RegionHeld3
import Derived.Deep.DeepCutAuto
import Derived.Deep.QuietTactic
import Derived.BigQuiet
import Derived.Lib.Hide
import Derived.KernelRfl
import Derived.WalkMore
import Derived.Deep.LoopGhost
import Derived.IntWalk
import Derived.Test.YtcpmkfoelhopiaaE9
namespace Go.Proofs.Ytcpmkfoelhopiaa
open Go.RowKit

def EvRel (xs ys : List Ev) (s : Value) : Prop := ∃ k : Nat, k ≤ xs.length ∧ s = .int .i64 k ∧ xs.take k = ys.take k
set_option maxRecDepth 100000 in
set_option maxHeartbeats 4000000 in
theorem eqf_n {A C : Option Addr} {rs rs2 : List ER} {n c m d : Nat} {r : Bool} (w : World) (H : Hid (decide (rs.map (·.e) = rs2.map (·.e)) = r)) (ha : Es w A rs n c) (hb : Es w C rs2 m d) :
    Calls Try.prog 38 #[.slice A n c, .slice C m d, .func (.func 39) #[] #[]] w fun e w' => e = .returned (.bool r) ∧ Plus w w' := by
  rw [← H.out]
  clear H
  obtain rfl := ha.len
  obtain rfl := hb.len
  have hcap := ha.cap
  have hmax := ha.max
  have hcap2 := hb.cap
  have hmax2 := hb.max
  have HA := Lib.hid ha
  have HB := Lib.hid hb
  clear ha hb
  by_cases hl : rs.length = rs2.length
  · have b1 : ((rs.length : Int) != (rs2.length : Int)) = false := by simp [hl]
    have HL := Lib.hid hl
    clear hl
    go_enter Try.func38, Try.ntmps38
    go_wp2
    go_loopw [17] (fun s17 wr => EvRel (rs.map (·.e)) (rs2.map (·.e)) s17 ∧ Plus w wr) (fun s17 _ => ((rs.length : Int) - intOf s17).toNat)
    case atStart => exact ⟨⟨0, by omega, rfl, rfl⟩, Plus.refl _⟩
    case round =>
      obtain ⟨⟨j, hk, rfl, he⟩, hp⟩ := hrel
      rw [List.length_map] at hk
      by_cases hlt : j < rs.length
      · have hlt2 : j < rs2.length := by rw [← HL.out]; exact hlt
        obtain ⟨g', o', x', rfl, hx, hxm, hM, h0, h1, h2, h3, h4, h5, h6, h7, h8, h9⟩ := (HA.out.plus hp).at_ hlt
        have hu := getD_map hlt hx
        obtain ⟨⟨g, k, s, t, b, a, z, xs, us, fs⟩, R, cr, W, cw, F, cf⟩ := x'
        simp only at h0 h1 h2 h3 h4 h5 h6 h7 h8 h9 hM hu
        have HM := Lib.hid (show EM wr R W F xs us fs xs.length cr us.length cw fs.length cf from hM)
        have HU := Lib.hid hu
        have hadd := add_addr g' o' (j * 10)
        clear hM hu hxm hx
        obtain ⟨g2', o2', x2', rfl, hx2, hxm2, hM2, h02, h12, h22, h32, h42, h52, h62, h72, h82, h92⟩ := (HB.out.plus hp).at_ hlt2
        have hu2 := getD_map hlt2 hx2
        obtain ⟨⟨g2, k2, s2, t2, b2, a2, z2, xs2, us2, fs2⟩, R2, cr2, W2, cw2, F2, cf2⟩ := x2'
        simp only at h02 h12 h22 h32 h42 h52 h62 h72 h82 h92 hM2 hu2
        have HM2 := Lib.hid (show EM wr R2 W2 F2 xs2 us2 fs2 xs2.length cr2 us2.length cw2 fs2.length cf2 from hM2)
        have HU2 := Lib.hid hu2
        have hadd2 := add_addr g2' o2' (j * 10)
        clear hM2 hu2 hxm2 hx2
        have HE := Lib.hid he
        obtain ⟨x, rfl⟩ := hp
        clear he
        obtain ⟨q, hq⟩ : ∃ q, decide ((⟨g, k, s, t, b, a, z, xs, us, fs⟩ : Ev) = ⟨g2, k2, s2, t2, b2, a2, z2, xs2, us2, fs2⟩) = q := ⟨_, rfl⟩
        have HC := Lib.hid hq
        clear hq
        haveI : Old g2' (plus w x) := ⟨World.block_lt_of_cell? _ _ h02⟩
        cases q
        · have HN : Hid (decide (rs.map (·.e) = rs2.map (·.e)) = false) := Lib.hid (by
            rw [decide_eq_false_iff_not]
            intro e
            have q := HU.out
            rw [e, HU2.out] at q
            have q2 := of_decide_eq_false HC.out
            exact q2 q.symm)
          go_wp2_with (go_at_call 39; (with_reducible refine (same_n _ HC (HM.out.plus (by repeat' (first | exact Plus.refl _ | refine Plus.alloc ?_ _ | refine Plus.plus ?_ _ | refine Plus.drew ?_ | refine Plus.drewN ?_ _))) (HM2.out.plus (by repeat' (first | exact Plus.refl _ | refine Plus.alloc ?_ _ | refine Plus.plus ?_ _ | refine Plus.drew ?_ | refine Plus.drewN ?_ _)))).mono ?_); rintro e w1 ⟨rfl, ⟨x1, rfl⟩⟩)
          go_returns
          exact ⟨ret_bool HN.out.symm, (by repeat' (first | exact Plus.refl _ | refine Plus.alloc ?_ _ | refine Plus.plus ?_ _ | refine Plus.drew ?_ | refine Plus.drewN ?_ _))⟩
        · have HT := Lib.hid (take_ext (z := default) HE.out (by rw [List.length_map]; exact hlt) (by rw [List.length_map]; exact hlt2) (HU.out.trans ((of_decide_eq_true HC.out).trans HU2.out.symm)))
          go_wp2_with (go_at_call 39; (with_reducible refine (same_n _ HC (HM.out.plus (by repeat' (first | exact Plus.refl _ | refine Plus.alloc ?_ _ | refine Plus.plus ?_ _ | refine Plus.drew ?_ | refine Plus.drewN ?_ _))) (HM2.out.plus (by repeat' (first | exact Plus.refl _ | refine Plus.alloc ?_ _ | refine Plus.plus ?_ _ | refine Plus.drew ?_ | refine Plus.drewN ?_ _)))).mono ?_); rintro e w1 ⟨rfl, ⟨x1, rfl⟩⟩)
          go_roundw
          case rel => exact ⟨⟨j + 1, by rw [List.length_map]; exact hlt, by rw [show ((j + 1 : Nat) : Int) = (j : Int) + 1 by omega], HT.out⟩, (by repeat' (first | exact Plus.refl _ | refine Plus.alloc ?_ _ | refine Plus.plus ?_ _ | refine Plus.drew ?_ | refine Plus.drewN ?_ _))⟩
          case measure => simp [intOf]; omega
      · obtain rfl : j = rs.length := by omega
        have HR : Hid (decide (rs.map (·.e) = rs2.map (·.e)) = true) := Lib.hid (by
          have q1 : (rs.map (·.e)).take rs.length = rs.map (·.e) := List.take_of_length_le (by rw [List.length_map]; exact Nat.le_refl _)
          have q2 : (rs2.map (·.e)).take rs.length = rs2.map (·.e) := List.take_of_length_le (by rw [List.length_map, HL.out]; exact Nat.le_refl _)
          rw [q1, q2] at he
          simpa using he)
        have HP := Lib.hid hp
        clear he hp
        go_wp2_with fail
        go_returns
        exact ⟨ret_bool HR.out.symm, HP.out⟩
  · have b1 : ((rs.length : Int) != (rs2.length : Int)) = true := by simp; omega
    have HN : Hid (decide (rs.map (·.e) = rs2.map (·.e)) = false) := Lib.hid (by
      rw [decide_eq_false_iff_not]
      intro e
      have q := congrArg List.length e
      rw [List.length_map, List.length_map] at q
      exact hl q)
    go_enter Try.func38, Try.ntmps38
    go_wp2
    go_returns
    exact ⟨ret_bool HN.out.symm, Plus.refl _⟩
set_option maxRecDepth 100000 in
set_option maxHeartbeats 4000000 in
theorem sameL_c {A C B D : Option Addr} {rs rs2 : List ER} {ps qs : List Pr} {n c m d n2 c2 m2 d2 : Nat} {r1 r2 : Bool} (w : World) (H1 : Hid (decide (rs.map (·.e) = rs2.map (·.e)) = r1)) (H2 : Hid (decide (ps = qs) = r2)) (ha : Hid (Es w A rs n c)) (hb : Hid (Es w C rs2 m d)) (hp : Hid (Pa w B ps n2 c2)) (hq : Hid (Pa w D qs m2 d2)) :
    Calls Try.prog 26 #[.agg #[.slice A n c, .slice B n2 c2], .agg #[.slice C m d, .slice D m2 d2]] w fun e w' => e = .returned (.bool (r1 && r2)) ∧ Plus w w' := by
  cases r1
  all_goals
    go_enter Try.func26, Try.ntmps26
    go_wp2_with (first | (go_at_call 38; (with_reducible refine (eqf_n _ H1 (ha.out.plus (by repeat' (first | exact Plus.refl _ | refine Plus.alloc ?_ _ | refine Plus.plus ?_ _ | refine Plus.drew ?_ | refine Plus.drewN ?_ _))) (hb.out.plus (by repeat' (first | exact Plus.refl _ | refine Plus.alloc ?_ _ | refine Plus.plus ?_ _ | refine Plus.drew ?_ | refine Plus.drewN ?_ _)))).mono ?_); rintro e w1 ⟨rfl, ⟨x1, rfl⟩⟩) | (go_at_call 40; (with_reducible refine (peq_n _ H2 (hp.out.plus (by repeat' (first | exact Plus.refl _ | refine Plus.alloc ?_ _ | refine Plus.plus ?_ _ | refine Plus.drew ?_ | refine Plus.drewN ?_ _))) (hq.out.plus (by repeat' (first | exact Plus.refl _ | refine Plus.alloc ?_ _ | refine Plus.plus ?_ _ | refine Plus.drew ?_ | refine Plus.drewN ?_ _)))).mono ?_); rintro e w1 ⟨rfl, ⟨x2, rfl⟩⟩))
    go_returns
    exact ⟨rfl, (by repeat' (first | exact Plus.refl _ | refine Plus.alloc ?_ _ | refine Plus.plus ?_ _ | refine Plus.drew ?_ | refine Plus.drewN ?_ _))⟩
theorem sameL_n {A C B D : Option Addr} {rs rs2 : List ER} {ps qs : List Pr} {n c m d n2 c2 m2 d2 : Nat} {r : Bool} (w : World) (H : Hid (decide (rs.map (·.e) = rs2.map (·.e) ∧ ps = qs) = r)) (ha : Es w A rs n c) (hb : Es w C rs2 m d) (hp : Pa w B ps n2 c2) (hq : Pa w D qs m2 d2) :
    Calls Try.prog 26 #[.agg #[.slice A n c, .slice B n2 c2], .agg #[.slice C m d, .slice D m2 d2]] w fun e w' => e = .returned (.bool r) ∧ Plus w w' := by
  rw [← H.out, Bool.decide_and]
  exact sameL_c w (Lib.hid rfl) (Lib.hid rfl) (Lib.hid ha) (Lib.hid hb) (Lib.hid hp) (Lib.hid hq)
end Go.Proofs.Ytcpmkfoelhopiaa
