/- The document's own Same. -/
import Derived.WalkKit
import Derived.WalkSpells
import Derived.WalkLawsBesides
import Derived.Handy
import Derived.Deep.RegionHeld3
import Derived.Deep.DeepCutAuto
import Derived.Deep.QuietTactic
import Derived.BigQuiet
import Derived.Lib.Hide
import Derived.KernelRfl
import Derived.WalkMore
import Derived.Deep.LoopGhost
import Derived.IntWalk
import Derived.Test.YtcpmkfoelhopiaaR8
import Derived.Test.YtcpmkfoelhopiaaR9
namespace Go.Proofs.Ytcpmkfoelhopiaa
open Go.RowKit

theorem sameR_no {l l2 : List Ev} {ps qs : List Pr} {r : Bool} (h : SameR l l2 ps qs r) (hn : ¬ (l = l2 ∧ ps = qs)) : r = false := by
  unfold SameR at h
  rw [← h]
  exact decide_eq_false hn
theorem sameR_yes {l l2 : List Ev} {ps qs : List Pr} {r : Bool} (h : SameR l l2 ps qs r) (hn : l = l2 ∧ ps = qs) : r = true := by
  unfold SameR at h
  rw [← h]
  exact decide_eq_true hn
def RsE (xs ys : List Ev) (s : Value) : Prop := ∃ k : Nat, k ≤ xs.length ∧ s = .int .i64 k ∧ xs.take k = ys.take k
set_option maxRecDepth 100000 in
set_option maxHeartbeats 16000000 in
theorem rsameL_x {A C B D : Option Addr} {rs rs2 : List ER} {ps qs : List Pr} {c d c2 d2 : Nat} {r : Bool} (w : World) (H : Hid (SameR (rs.map (·.e)) (rs2.map (·.e)) ps qs r)) (ha : Es w A rs rs.length c) (hb : Es w C rs2 rs2.length c2) (hp : Pa w B ps ps.length d) (hq : Pa w D qs qs.length d2) :
    Calls Try.prog 22 #[.agg #[.slice A rs.length c, .slice B ps.length d], .agg #[.slice C rs2.length c2, .slice D qs.length d2]] w fun e w' => e = .returned (.bool r) ∧ Plus w w' := by
  have hcap := ha.cap
  have hmax := ha.max
  have hcap2 := hb.cap
  have hmax2 := hb.max
  have hcap3 := hp.cap
  have hmax3 := hp.max
  have hcap4 := hq.cap
  have hmax4 := hq.max
  have HA := Lib.hid ha
  have HB := Lib.hid hb
  have HP := Lib.hid hp
  have HQ := Lib.hid hq
  clear ha hb hp hq
  by_cases hl : rs.length = rs2.length
  · by_cases hl2 : ps.length = qs.length
    · have b1 : ((rs.length : Int) != (rs2.length : Int)) = false := by simp [hl]
      have b2 : ((ps.length : Int) != (qs.length : Int)) = false := by simp [hl2]
      have HL := Lib.hid hl
      have HL2 := Lib.hid hl2
      clear hl hl2
      go_enter Try.func22, Try.ntmps22
      go_wp2_with fail
      go_loopw [5] (fun s5 wr => RsE (rs.map (·.e)) (rs2.map (·.e)) s5 ∧ Plus ((w.alloc (.cells #[.slice A rs.length c, .slice B ps.length d] 40)).alloc (.cells #[.slice C rs2.length c2, .slice D qs.length d2] 40)) wr) (fun s5 _ => ((rs.length : Int) - intOf s5).toNat)
      case atStart => exact ⟨⟨0, Nat.zero_le _, rfl, rfl⟩, Plus.refl _⟩
      case round =>
        obtain ⟨⟨j, hk, rfl, he⟩, hpp⟩ := hrel
        rw [List.length_map] at hk
        by_cases hlt : j < rs.length
        · have hlt2 : j < rs2.length := by rw [← HL.out]; exact hlt
          have hpw : Plus w wr := (Plus.alloc (Plus.alloc (Plus.refl _) _) _).trans hpp
          obtain ⟨g', o', x', rfl, hx, hxm, hM, h0, h1, h2, h3, h4, h5, h6, h7, h8, h9⟩ := (HA.out.plus hpw).at_ hlt
          have hu := getD_map hlt hx
          obtain ⟨⟨g, k, s, t, b, a, z, xs, us, fs⟩, R, cr, W, cw, F, cf⟩ := x'
          simp only at h0 h1 h2 h3 h4 h5 h6 h7 h8 h9 hM hu
          have HM := Lib.hid (show EM wr R W F xs us fs xs.length cr us.length cw fs.length cf from hM)
          have HU := Lib.hid hu
          have hadd := add_addr g' o' (j * 10)
          have hgl := World.block_lt_of_cell? _ _ h0
          have p0 := fun z => (cell?_plus wr z _ _ hgl).trans h0
          have p1 := fun z => (cell?_plus wr z _ _ hgl).trans h1
          have p2 := fun z => (cell?_plus wr z _ _ hgl).trans h2
          have p3 := fun z => (cell?_plus wr z _ _ hgl).trans h3
          have p4 := fun z => (cell?_plus wr z _ _ hgl).trans h4
          have p5 := fun z => (cell?_plus wr z _ _ hgl).trans h5
          have p6 := fun z => (cell?_plus wr z _ _ hgl).trans h6
          have p7 := fun z => (cell?_plus wr z _ _ hgl).trans h7
          have p8 := fun z => (cell?_plus wr z _ _ hgl).trans h8
          have p9 := fun z => (cell?_plus wr z _ _ hgl).trans h9
          clear hM hu hxm hx h0 h1 h2 h3 h4 h5 h6 h7 h8 h9
          obtain ⟨g2', o2', x2', rfl, hx2, hxm2, hM2, h02, h12, h22, h32, h42, h52, h62, h72, h82, h92⟩ := (HB.out.plus hpw).at_ hlt2
          have hu2 := getD_map hlt2 hx2
          obtain ⟨⟨g2, k2, s2, t2, b2, a2, z2, xs2, us2, fs2⟩, R2, cr2, W2, cw2, F2, cf2⟩ := x2'
          simp only at h02 h12 h22 h32 h42 h52 h62 h72 h82 h92 hM2 hu2
          have HM2 := Lib.hid (show EM wr R2 W2 F2 xs2 us2 fs2 xs2.length cr2 us2.length cw2 fs2.length cf2 from hM2)
          have HU2 := Lib.hid hu2
          have hadd2 := add_addr g2' o2' (j * 10)
          have hgl2 := World.block_lt_of_cell? _ _ h02
          have p02 := fun z => (cell?_plus wr z _ _ hgl2).trans h02
          have p12 := fun z => (cell?_plus wr z _ _ hgl2).trans h12
          have p22 := fun z => (cell?_plus wr z _ _ hgl2).trans h22
          have p32 := fun z => (cell?_plus wr z _ _ hgl2).trans h32
          have p42 := fun z => (cell?_plus wr z _ _ hgl2).trans h42
          have p52 := fun z => (cell?_plus wr z _ _ hgl2).trans h52
          have p62 := fun z => (cell?_plus wr z _ _ hgl2).trans h62
          have p72 := fun z => (cell?_plus wr z _ _ hgl2).trans h72
          have p82 := fun z => (cell?_plus wr z _ _ hgl2).trans h82
          have p92 := fun z => (cell?_plus wr z _ _ hgl2).trans h92
          clear hM2 hu2 hxm2 hx2 h02 h12 h22 h32 h42 h52 h62 h72 h82 h92
          have HE := Lib.hid he
          have HPP := Lib.hid hpp
          obtain ⟨x, rfl⟩ := hpp
          clear he hpw
          obtain ⟨q, hq⟩ : ∃ q, decide ((⟨g, k, s, t, b, a, z, xs, us, fs⟩ : Ev) = ⟨g2, k2, s2, t2, b2, a2, z2, xs2, us2, fs2⟩) = q := ⟨_, rfl⟩
          have HC := Lib.hid hq
          clear hq
          cases q
          · have hr0 : r = false := sameR_no H.out (fun hh => by
              have q := HU.out
              rw [hh.1, HU2.out] at q
              exact (of_decide_eq_false HC.out) q.symm)
            subst hr0
            go_wp2_with fail
            refine wp_region_plus (by kernel_rfl) (by kernel_rfl) ?_
            repeat (go_big_quiet_step (((go_at_call 33; exact calls_plus (rsame_n _ HC (HM.out.plus (by repeat' (first | exact Plus.refl _ | refine Plus.alloc ?_ _ | refine Plus.plus ?_ _ | refine Plus.drew ?_ | refine Plus.drewN ?_ _))) (HM2.out.plus (by repeat' (first | exact Plus.refl _ | refine Plus.alloc ?_ _ | refine Plus.plus ?_ _ | refine Plus.drew ?_ | refine Plus.drewN ?_ _))))))))
            refine wpQuiet_nil ?_
            intro _ hw'
            obtain ⟨z5, rfl⟩ := hw'
            go_wp2_with fail
            go_returns
            exact ⟨rfl, (by repeat' (first | exact Plus.refl _ | refine Plus.alloc ?_ _ | refine Plus.plus ?_ _ | refine Plus.drew ?_ | refine Plus.drewN ?_ _))⟩
          · have HT := Lib.hid (take_ext (z := default) HE.out (by rw [List.length_map]; exact hlt) (by rw [List.length_map]; exact hlt2) (HU.out.trans ((of_decide_eq_true HC.out).trans HU2.out.symm)))
            go_wp2_with fail
            refine wp_region_plus (by kernel_rfl) (by kernel_rfl) ?_
            repeat (go_big_quiet_step (((go_at_call 33; exact calls_plus (rsame_n _ HC (HM.out.plus (by repeat' (first | exact Plus.refl _ | refine Plus.alloc ?_ _ | refine Plus.plus ?_ _ | refine Plus.drew ?_ | refine Plus.drewN ?_ _))) (HM2.out.plus (by repeat' (first | exact Plus.refl _ | refine Plus.alloc ?_ _ | refine Plus.plus ?_ _ | refine Plus.drew ?_ | refine Plus.drewN ?_ _))))))))
            refine wpQuiet_nil ?_
            intro _ hw'
            obtain ⟨z5, rfl⟩ := hw'
            go_wp2_with fail
            go_roundw
            case rel => exact ⟨⟨j + 1, by rw [List.length_map]; exact hlt, int_eq (by omega), HT.out⟩, (by repeat' (first | exact Plus.refl _ | refine Plus.alloc ?_ _ | refine Plus.plus ?_ _ | refine Plus.drew ?_ | refine Plus.drewN ?_ _))⟩
            case measure => simp [intOf]; omega
        · obtain rfl : j = rs.length := by omega
          have HEQ : Hid (rs.map (·.e) = rs2.map (·.e)) := Lib.hid (by
            have q1 : (rs.map (·.e)).take rs.length = rs.map (·.e) := List.take_of_length_le (by rw [List.length_map]; exact Nat.le_refl _)
            have q2 : (rs2.map (·.e)).take rs.length = rs2.map (·.e) := List.take_of_length_le (by rw [List.length_map, HL.out]; exact Nat.le_refl _)
            rw [q1, q2] at he
            exact he)
          obtain ⟨x, rfl⟩ := hpp
          clear he
          go_wp2_with fail
          go_loopw [6] (fun s6 wr => PqRel ps qs s6 ∧ Plus ((w.alloc (.cells #[.slice A rs.length c, .slice B ps.length d] 40)).alloc (.cells #[.slice C rs2.length c2, .slice D qs.length d2] 40)) wr) (fun s6 _ => ((ps.length : Int) - intOf s6).toNat)
          case atStart => exact ⟨⟨0, Nat.zero_le _, rfl, rfl⟩, Plus.is _⟩
          case round =>
            obtain ⟨⟨i, hk2, rfl, he⟩, hpp⟩ := hrel
            by_cases hlt : i < ps.length
            · have hlt2 : i < qs.length := by rw [← HL2.out]; exact hlt
              have hpw : Plus w wr := (Plus.alloc (Plus.alloc (Plus.refl _) _) _).trans hpp
              obtain ⟨e, f, rfl, hg, hat⟩ := (HP.out.rd.plus hpw) (by omega)
              obtain ⟨hc0, hc1⟩ := hat i hlt
              obtain ⟨v, hv⟩ : ∃ v, ps.getD i (0, 0) = v := ⟨_, rfl⟩
              rw [hv] at hc0 hc1
              have HV := Lib.hid hv
              obtain ⟨p0, p1⟩ := v
              simp only at hc0 hc1
              have m0 := fun z => (cell?_plus wr z _ _ hg).trans hc0
              have m1 := fun z => (cell?_plus wr z _ _ hg).trans hc1
              have ha0 := add_addr e f (i * 2)
              have ha1 := add_addr e (f + i * 2) 1
              clear hv hat hc0 hc1
              obtain ⟨e2, f2, rfl, hg2, hat2⟩ := (HQ.out.rd.plus hpw) (by omega)
              obtain ⟨hc02, hc12⟩ := hat2 i hlt2
              obtain ⟨v2, hv2⟩ : ∃ v, qs.getD i (0, 0) = v := ⟨_, rfl⟩
              rw [hv2] at hc02 hc12
              have HV2 := Lib.hid hv2
              obtain ⟨r0, r1⟩ := v2
              simp only at hc02 hc12
              have m02 := fun z => (cell?_plus wr z _ _ hg2).trans hc02
              have m12 := fun z => (cell?_plus wr z _ _ hg2).trans hc12
              have ha02 := add_addr e2 f2 (i * 2)
              have ha12 := add_addr e2 (f2 + i * 2) 1
              clear hv2 hat2 hc02 hc12
              have HE := Lib.hid he
              obtain ⟨x, rfl⟩ := hpp
              clear he hpw
              by_cases hvu : p0 = r0 ∧ p1 = r1
              · obtain ⟨rfl, rfl⟩ := hvu
                have HT := Lib.hid (take_ext HE.out hlt hlt2 (HV.out.trans HV2.out.symm))
                go_wp2_with fail
                refine wp_region_plus (by kernel_rfl) (by kernel_rfl) ?_
                repeat (go_big_quiet_step (fail))
                refine wpQuiet_nil ?_
                intro _ hw'
                obtain ⟨z5, rfl⟩ := hw'
                go_wp2_with fail
                go_roundw
                case rel => exact ⟨⟨i + 1, hlt, int_eq (by omega), HT.out⟩, (by repeat' (first | exact Plus.refl _ | refine Plus.alloc ?_ _ | refine Plus.plus ?_ _ | refine Plus.drew ?_ | refine Plus.drewN ?_ _))⟩
                case measure => simp [intOf]; omega
              · have hr0 : r = false := sameR_no H.out (fun hh => by
                  have q := HV.out
                  rw [hh.2, HV2.out] at q
                  injection q with q1 q2
                  exact hvu ⟨q1.symm, q2.symm⟩)
                subst hr0
                have hv3 : p0 ≠ r0 ∨ (p0 = r0 ∧ p1 ≠ r1) := by
                  by_cases h : p0 = r0
                  · exact .inr ⟨h, fun h2 => hvu ⟨h, h2⟩⟩
                  · exact .inl h
                clear hvu
                rcases hv3 with h | ⟨rfl, h⟩
                · have b3 : (p0 == r0) = false := by simpa using h
                  clear h
                  go_wp2_with fail
                  refine wp_region_plus (by kernel_rfl) (by kernel_rfl) ?_
                  repeat (go_big_quiet_step (fail))
                  refine wpQuiet_nil ?_
                  intro _ hw'
                  obtain ⟨z5, rfl⟩ := hw'
                  go_wp2_with fail
                  go_returns
                  exact ⟨rfl, (by repeat' (first | exact Plus.refl _ | refine Plus.alloc ?_ _ | refine Plus.plus ?_ _ | refine Plus.drew ?_ | refine Plus.drewN ?_ _))⟩
                · have b3 : (p1 == r1) = false := by simpa using h
                  clear h
                  go_wp2_with fail
                  refine wp_region_plus (by kernel_rfl) (by kernel_rfl) ?_
                  repeat (go_big_quiet_step (fail))
                  refine wpQuiet_nil ?_
                  intro _ hw'
                  obtain ⟨z5, rfl⟩ := hw'
                  go_wp2_with fail
                  go_returns
                  exact ⟨rfl, (by repeat' (first | exact Plus.refl _ | refine Plus.alloc ?_ _ | refine Plus.plus ?_ _ | refine Plus.drew ?_ | refine Plus.drewN ?_ _))⟩
            · obtain rfl : i = ps.length := by omega
              have hr1 : r = true := sameR_yes H.out ⟨HEQ.out, by
                rw [List.take_length, HL2.out, List.take_length] at he
                exact he⟩
              subst hr1
              obtain ⟨x, rfl⟩ := hpp
              clear he
              go_wp2_with fail
              go_returns
              exact ⟨rfl, (by repeat' (first | exact Plus.refl _ | refine Plus.alloc ?_ _ | refine Plus.plus ?_ _ | refine Plus.drew ?_ | refine Plus.drewN ?_ _))⟩
    · have hr0 : r = false := sameR_no H.out (fun hh => hl2 (congrArg List.length hh.2))
      subst hr0
      have b1 : ((ps.length : Int) != (qs.length : Int)) = true := by simp; omega
      have b3 : ((rs.length : Int) != (rs2.length : Int)) = false := by simp [hl]
      clear hl hl2
      go_enter Try.func22, Try.ntmps22
      go_wp2_with fail
      go_returns
      exact ⟨rfl, (by repeat' (first | exact Plus.refl _ | refine Plus.alloc ?_ _ | refine Plus.plus ?_ _ | refine Plus.drew ?_ | refine Plus.drewN ?_ _))⟩
  · have hr0 : r = false := sameR_no H.out (fun hh => hl (by have q := congrArg List.length hh.1; rw [List.length_map, List.length_map] at q; exact q))
    subst hr0
    have b1 : ((rs.length : Int) != (rs2.length : Int)) = true := by simp; omega
    clear hl
    go_enter Try.func22, Try.ntmps22
    go_wp2_with fail
    go_returns
    exact ⟨rfl, (by repeat' (first | exact Plus.refl _ | refine Plus.alloc ?_ _ | refine Plus.plus ?_ _ | refine Plus.drew ?_ | refine Plus.drewN ?_ _))⟩
theorem rsame_s {l l2 : List Ev} {ps qs : List Pr} {A B C D : Option Addr} {n c m d n2 c2 m2 d2 : Nat} {r : Bool} (w : World) (H : Hid (SameR l l2 ps qs r)) (h : Lg w l ps A n c B m d) (h2 : Lg w l2 qs C n2 c2 D m2 d2) : Calls Try.prog 22 #[.agg #[.slice A n c, .slice B m d], .agg #[.slice C n2 c2, .slice D m2 d2]] w fun e w' => e = .returned (.bool r) ∧ Plus w w' := by
  obtain ⟨rs, rfl, he⟩ := h.ev
  obtain ⟨rs2, rfl, he2⟩ := h2.ev
  obtain rfl := he.len
  obtain rfl := he2.len
  have hp := h.pa
  have hp2 := h2.pa
  obtain rfl := hp.len
  obtain rfl := hp2.len
  exact rsameL_x w H he he2 hp hp2
end Go.Proofs.Ytcpmkfoelhopiaa
