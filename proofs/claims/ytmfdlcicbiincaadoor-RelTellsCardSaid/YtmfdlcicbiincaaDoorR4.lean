/- The document's own shape at any event, wrote, read. -/
import Derived.WalkKit
import Derived.WalkSpells
import Derived.WalkLawsBesides
import Derived.Handy
import Derived.Deep.RegionHeld3
import Derived.Deep.DeepCutAuto
import Derived.Deep.QuietTactic
import Derived.BigQuiet
import Derived.Lib.Hide
import Derived.KernelRfl
import Derived.WalkMore
import Derived.Deep.LoopGhost
import Derived.IntWalk
import Derived.Test.YtmfdlcicbiincaaDoorR3
namespace Go.Proofs.YtmfdlcicbiincaaDoor
open Go.RowKit

theorem sync_none (g : Int) (s t : Bool) (b a z : Int) (xs us fs : List Int) : decide ((⟨g, 0, s, t, b, a, z, xs, us, fs⟩ : Ev) = syncOf g) = noneB s t b a z xs.length us.length fs.length := by
  unfold syncOf noneB
  rw [Bool.eq_iff_iff]
  have q : xs.length + us.length + fs.length = 0 ↔ xs = [] ∧ us = [] ∧ fs = [] := by
    rw [← List.length_eq_zero_iff (l := xs), ← List.length_eq_zero_iff (l := us), ← List.length_eq_zero_iff (l := fs)]
    omega
  simp only [decide_eq_true_eq, Bool.and_eq_true, q, Ev.mk.injEq, Bool.not_eq_true']
  simp [and_assoc]
theorem shape_n {g k b a z : Int} {s t : Bool} {R W F : Option Addr} {nr cr nw cw nf cf : Nat} {xs us fs : List Int} {c : Bool} (w : World) (H : Hid (shapedM ⟨g, k, s, t, b, a, z, xs, us, fs⟩ = c)) (e1 : nr = xs.length) (e2 : nw = us.length) (e3 : nf = fs.length) (l1 : nr ≤ 20000) (l2 : nw ≤ 20000) (l3 : nf ≤ 20000) : Calls Tryd.prog 72 #[Value.agg #[.int .i64 g, .int .i64 k, .bool s, .bool t, .int .i64 b, .int .i64 a, .int .i64 z, .slice R nr cr, .slice W nw cw, .slice F nf cf]] w fun e w' => e = .returned (.bool c) ∧ Plus w w' := by
  rw [← H.out]
  clear H
  subst e1 e2 e3
  unfold shapedM
  simp only
  by_cases k0 : k = 0
  · subst k0
    rw [if_pos rfl, sync_none]
    exact shape_0 w l1 l2 l3
  · rw [if_neg k0]
    by_cases k1 : k = 1
    · subst k1
      rw [if_pos rfl]
      exact shape_1 w l1 l2 l3 (Lib.hid (by decide)) (Lib.hid (by decide))
    · rw [if_neg k1]
      by_cases k2 : k = 2
      · subst k2
        rw [if_pos rfl]
        exact shape_2 w l1 l2 l3 (Lib.hid (by decide)) (Lib.hid (by decide))
      · rw [if_neg k2]
        by_cases k3 : k = 3
        · subst k3
          rw [if_pos rfl]
          exact shape_3 w l1 l2 l3 (Lib.hid (by decide)) (Lib.hid (by decide))
        · rw [if_neg k3, Bool.and_false]
          exact shape_x w l1 l2 l3 (by omega)
set_option maxRecDepth 100000 in
set_option maxHeartbeats 4000000 in
theorem wrote_n {g k b a z : Int} {s t : Bool} {R W F : Option Addr} {nr cr nw cw nf cf : Nat} {us : List Int} {j : Nat} {p v : Int} (w : World) (HW : Ar .u8 w W us nw cw) (hj : j < us.length) (hp : p = a + (j : Int)) (_ : 0 ≤ a) (_ : a ≤ 1000) (_ : us.length ≤ 1000) (hv : Hid (us.getD j 0 = v)) : Calls Tryd.prog 84 #[Value.agg #[.int .i64 g, .int .i64 k, .bool s, .bool t, .int .i64 b, .int .i64 a, .int .i64 z, .slice R nr cr, .slice W nw cw, .slice F nf cf], .int .i64 p] w fun e w' => e = .returned (.int .u8 v) ∧ Plus w w' := by
  obtain ⟨g2, o2, rfl, hg2, hat⟩ := HW.rd.at_ hj
  have hc := hat j hj
  rw [hv.out] at hc
  obtain rfl := HW.len
  subst hp
  haveI : Old g2 w := ⟨hg2⟩
  have hadd := add_addr g2 o2 j
  have hjj : (a + (j : Int) - a) = (j : Int) := by omega
  clear hat hv HW
  go_enter Tryd.func84, Tryd.ntmps84
  go_wp2_with fail
  go_returns
  exact ⟨rfl, (by repeat' (first | exact Plus.refl _ | refine Plus.alloc ?_ _ | refine Plus.plus ?_ _ | refine Plus.drew ?_ | refine Plus.drewN ?_ _))⟩
/-- What read tells. -/
def ReadR (l : List Ev) (n : Nat) (r : Bool) : Prop := (∀ i, i < (l.getD n default).f.length → readAt (l.take n) (l.getD n default) i) ↔ r = true
theorem readR_no {l : List Ev} {n i : Nat} {r : Bool} (h : ReadR l n r) (hi : i < (l.getD n default).f.length) (hn : ¬ readAt (l.take n) (l.getD n default) i) : r = false := by
  cases r
  · rfl
  · exact absurd (h.2 rfl i hi) hn
set_option maxRecDepth 100000 in
set_option maxHeartbeats 16000000 in
theorem read_n {A : Option Addr} {rs : List ER} {n c k : Nat} {r : Bool} (w : World) (HR : Hid (ReadR (rs.map (·.e)) k r)) (hes : Es w A rs n c) (hk : k < n) (hn : n ≤ 100000) (hsh : shapedM ((rs.map (·.e)).getD k default) = true) (hfit : ∀ x ∈ rs.take k, shapedM x.e = true) : Calls Tryd.prog 73 #[.slice A n c, .int .i64 k] w fun e w' => e = .returned (.bool r) ∧ Plus w w' := by
  obtain rfl := hes.len
  have H := Lib.hid hes
  have hcap := hes.cap
  obtain ⟨g, o, x, rfl, hx, hxm, hM, h0, h1, h2, h3, h4, h5, h6, h7, h8, h9⟩ := hes.at_ hk
  have hu := getD_map hk hx
  rw [hu] at hsh
  obtain ⟨⟨g1, k1, s1, t1, b1, a1, z1, xs1, us1, fs1⟩, R1, cr1, W1, cw1, F1, cf1⟩ := x
  simp only at h0 h1 h2 h3 h4 h5 h6 h7 h8 h9 hM hu hsh
  have HM := Lib.hid (show EM w R1 W1 F1 xs1 us1 fs1 xs1.length cr1 us1.length cw1 fs1.length cf1 from hM)
  obtain ⟨f1, f2, f3, f4⟩ := shp_f hsh
  simp only at f1 f2 f3 f4
  have HF1 := Lib.hid f1
  have HU := Lib.hid hu
  have HFT := Lib.hid hfit
  have hadd := add_addr g o (k * 10)
  clear hes hM hu hxm hx hsh f1 hfit
  go_enter Tryd.func73, Tryd.ntmps73
  go_wp2_with fail
  go_loopw [6] (fun s6 wr => InRel ((rs.take k).map (·.e)) ⟨g1, k1, s1, t1, b1, a1, z1, xs1, us1, fs1⟩ s6 ∧ Plus (w.alloc (.cells #[.int .i64 g1, .int .i64 k1, .bool s1, .bool t1, .int .i64 b1, .int .i64 a1, .int .i64 z1, .slice R1 xs1.length cr1, .slice W1 us1.length cw1, .slice F1 fs1.length cf1] 65)) wr) (fun s6 _ => ((fs1.length : Int) - intOf s6).toNat)
  case atStart => exact ⟨⟨0, Nat.zero_le _, rfl, fun n h => absurd h (by omega)⟩, Plus.refl _⟩
  case round =>
    obtain ⟨⟨j, hj, rfl, hin⟩, ⟨y, rfl⟩⟩ := hrel
    simp only at hj
    by_cases hjl : j < fs1.length
    · obtain ⟨g2, o2, e2, hg2, hat⟩ := (HM.out.plus (Plus.alloc (Plus.refl _) (.cells #[.int .i64 g1, .int .i64 k1, .bool s1, .bool t1, .int .i64 b1, .int .i64 a1, .int .i64 z1, .slice R1 xs1.length cr1, .slice W1 us1.length cw1, .slice F1 fs1.length cf1] 65) |>.plus y)).ef.rd.at_ hjl
      have e2' : F1 = _ := e2
      subst e2'
      have hcf := hat j hjl
      have hjx : j < xs1.length := by rw [← HF1.out]; exact hjl
      obtain ⟨g3, o3, e3, hg3, hat3⟩ := (HM.out.plus (Plus.alloc (Plus.refl _) (.cells #[.int .i64 g1, .int .i64 k1, .bool s1, .bool t1, .int .i64 b1, .int .i64 a1, .int .i64 z1, .slice R1 xs1.length cr1, .slice W1 us1.length cw1, .slice (some ⟨g2, o2, none⟩) fs1.length cf1] 65) |>.plus y)).er.rd.at_ hjx
      have e3' : R1 = _ := e3
      subst e3'
      have hcr0 := hat3 j hjx
      have hcr : ∀ z, (plus (plus (w.alloc (.cells #[.int .i64 g1, .int .i64 k1, .bool s1, .bool t1, .int .i64 b1, .int .i64 a1, .int .i64 z1, .slice (some ⟨g3, o3, none⟩) xs1.length cr1, .slice W1 us1.length cw1, .slice (some ⟨g2, o2, none⟩) fs1.length cf1] 65)) y) z).cell? ⟨g3, o3 + j, none⟩ = some (.int .u8 (xs1.getD j 0)) := fun z => (cell?_plus _ z _ _ hg3).trans (hat3 j hjx)
      obtain ⟨fr, hfr⟩ : ∃ v, fs1.getD j 0 = v := ⟨_, rfl⟩
      obtain ⟨rv, hrv⟩ : ∃ v, xs1.getD j 0 = v := ⟨_, rfl⟩
      rw [hfr] at hcf
      rw [hrv] at hcr0
      have hcr2 := hcr
      rw [hrv] at hcr2
      have hadd2 := add_addr g2 o2 j
      have hadd3 := add_addr g3 o3 j
      have HRA : Hid (readAt ((rs.take k).map (·.e)) ⟨g1, k1, s1, t1, b1, a1, z1, xs1, us1, fs1⟩ j ↔ originM ((rs.take k).map (·.e)) fr b1 (a1 + j) = some rv) := Lib.hid (by unfold readAt; simp only; rw [hfr, hrv])
      have HIN := Lib.hid hin
      have hw := IntWalk.i64_in (a1 + j) (by omega)
      have HNO : Hid (¬ readAt ((rs.take k).map (·.e)) ⟨g1, k1, s1, t1, b1, a1, z1, xs1, us1, fs1⟩ j → r = false) := Lib.hid (fun hh => readR_no HR.out (i := j) (by rw [HU.out]; exact hjl) (by rw [HU.out, ← List.map_take]; exact hh))
      have HST : Hid (readAt ((rs.take k).map (·.e)) ⟨g1, k1, s1, t1, b1, a1, z1, xs1, us1, fs1⟩ j → ∀ i, i < j + 1 → readAt ((rs.take k).map (·.e)) ⟨g1, k1, s1, t1, b1, a1, z1, xs1, us1, fs1⟩ i) := Lib.hid (fun hh i hi => by
        by_cases e : i = j
        · rw [e]; exact hh
        · exact HIN.out i (by omega))
      clear hin hcr hat hat3 e2 e3 hfr hrv HIN
      have hlk : (rs.take k).length = k := by rw [List.length_take]; omega
      by_cases c1 : fr = -1
      · subst c1
        have HO : Hid (readAt ((rs.take k).map (·.e)) ⟨g1, k1, s1, t1, b1, a1, z1, xs1, us1, fs1⟩ j ↔ rv = 0) := Lib.hid (by rw [HRA.out]; unfold originM; rw [if_pos rfl]; exact ⟨fun h => (Option.some.inj h).symm, fun h => by rw [h]⟩)
        by_cases hz : rv = 0
        · subst hz
          have HYES := Lib.hid (HST.out (HO.out.2 rfl))
          clear hw hlk
          go_wp2_with fail
          go_roundw
          case rel => exact ⟨⟨j + 1, hjl, int_eq (by omega), HYES.out⟩, (by repeat' (first | exact Plus.refl _ | refine Plus.alloc ?_ _ | refine Plus.plus ?_ _ | refine Plus.drew ?_ | refine Plus.drewN ?_ _))⟩
          case measure => simp [intOf]; omega
        · have hr0 : r = false := HNO.out (fun h => hz (HO.out.1 h))
          subst hr0
          have b2 : (rv != 0) = true := by simpa using hz
          clear hw hlk hz
          go_wp2_with fail
          go_returns
          exact ⟨rfl, (by repeat' (first | exact Plus.refl _ | refine Plus.alloc ?_ _ | refine Plus.plus ?_ _ | refine Plus.drew ?_ | refine Plus.drewN ?_ _))⟩
      · have d1 : (fr == -1) = false := by simpa using c1
        by_cases c2 : fr < 0 ∨ (k : Int) ≤ fr
        · have hr0 : r = false := HNO.out (fun h => by
            rw [HRA.out] at h
            unfold originM at h
            rw [if_neg c1, if_pos (by rw [List.length_map, hlk]; exact c2)] at h
            cases h)
          subst hr0
          clear hlk c1
          rcases c2 with c2 | c2
          · go_wp2_with fail
            refine wp_region_plus (by kernel_rfl) (by kernel_rfl) ?_
            repeat (go_big_quiet_step (fail))
            refine wpQuiet_nil ?_
            intro _ hw'
            obtain ⟨z, rfl⟩ := hw'
            clear hw
            go_wp2_with fail
            go_returns
            exact ⟨rfl, (by repeat' (first | exact Plus.refl _ | refine Plus.alloc ?_ _ | refine Plus.plus ?_ _ | refine Plus.drew ?_ | refine Plus.drewN ?_ _))⟩
          · have c3 : decide (fr < 0) = false := by simp; omega
            have c4 : decide ((k : Int) ≤ fr) = true := by simpa using c2
            go_wp2_with fail
            refine wp_region_plus (by kernel_rfl) (by kernel_rfl) ?_
            repeat (go_big_quiet_step (fail))
            refine wpQuiet_nil ?_
            intro _ hw'
            obtain ⟨z, rfl⟩ := hw'
            clear hw
            go_wp2_with fail
            go_returns
            exact ⟨rfl, (by repeat' (first | exact Plus.refl _ | refine Plus.alloc ?_ _ | refine Plus.plus ?_ _ | refine Plus.drew ?_ | refine Plus.drewN ?_ _))⟩
        · obtain ⟨m, rfl⟩ : ∃ m : Nat, fr = (m : Int) := ⟨fr.toNat, by omega⟩
          have hmk : m < k := by omega
          have dm : decide ((m : Int) < 0) = false := by simp
          have dk : decide ((k : Int) ≤ (m : Int)) = false := by simp; omega
          have dk2 : decide (k ≤ m) = false := by simp; omega
          obtain ⟨g5, o5, x, eA, hx, hxm, hM, q0, q1, q2, q3, q4, q5, q6, q7, q8, q9⟩ := (H.out.plus (Plus.alloc (Plus.refl _) (.cells #[.int .i64 g1, .int .i64 k1, .bool s1, .bool t1, .int .i64 b1, .int .i64 a1, .int .i64 z1, .slice (some ⟨g3, o3, none⟩) xs1.length cr1, .slice W1 us1.length cw1, .slice (some ⟨g2, o2, none⟩) fs1.length cf1] 65) |>.plus y)).at_ (show m < rs.length by omega)
          injection eA with eA
          injection eA with eA1 eA2 _
          subst eA1 eA2
          have hum := getD_map (show m < rs.length by omega) hx
          have hut : ((rs.take k).map (·.e)).getD m default = x.e := by rw [← hum, List.map_take, List.getD_eq_getElem?_getD, List.getD_eq_getElem?_getD, List.getElem?_take, if_pos hmk]
          have hsx : shapedM x.e = true := HFT.out x (by
            rw [← hx, List.getD_eq_getElem?_getD, List.getElem?_eq_getElem (show m < rs.length by omega)]
            exact List.mem_take_iff_getElem.2 ⟨m, by omega, rfl⟩)
          have hFit := fit_of _ hsx
          obtain ⟨⟨g4, k4, s4, t4, b4, a4, z4, xs4, us4, fs4⟩, R4, cr4, W4, cw4, F4, cf4⟩ := x
          simp only at q0 q1 q2 q3 q4 q5 q6 q7 q8 q9 hM hut hFit
          have hgl := World.block_lt_of_cell? _ _ q0
          have p0 := fun z => (cell?_plus (plus (w.alloc (.cells #[.int .i64 g1, .int .i64 k1, .bool s1, .bool t1, .int .i64 b1, .int .i64 a1, .int .i64 z1, .slice (some ⟨g3, o3, none⟩) xs1.length cr1, .slice W1 us1.length cw1, .slice (some ⟨g2, o2, none⟩) fs1.length cf1] 65)) y) z _ _ hgl).trans q0
          have p1 := fun z => (cell?_plus (plus (w.alloc (.cells #[.int .i64 g1, .int .i64 k1, .bool s1, .bool t1, .int .i64 b1, .int .i64 a1, .int .i64 z1, .slice (some ⟨g3, o3, none⟩) xs1.length cr1, .slice W1 us1.length cw1, .slice (some ⟨g2, o2, none⟩) fs1.length cf1] 65)) y) z _ _ hgl).trans q1
          have p2 := fun z => (cell?_plus (plus (w.alloc (.cells #[.int .i64 g1, .int .i64 k1, .bool s1, .bool t1, .int .i64 b1, .int .i64 a1, .int .i64 z1, .slice (some ⟨g3, o3, none⟩) xs1.length cr1, .slice W1 us1.length cw1, .slice (some ⟨g2, o2, none⟩) fs1.length cf1] 65)) y) z _ _ hgl).trans q2
          have p3 := fun z => (cell?_plus (plus (w.alloc (.cells #[.int .i64 g1, .int .i64 k1, .bool s1, .bool t1, .int .i64 b1, .int .i64 a1, .int .i64 z1, .slice (some ⟨g3, o3, none⟩) xs1.length cr1, .slice W1 us1.length cw1, .slice (some ⟨g2, o2, none⟩) fs1.length cf1] 65)) y) z _ _ hgl).trans q3
          have p4 := fun z => (cell?_plus (plus (w.alloc (.cells #[.int .i64 g1, .int .i64 k1, .bool s1, .bool t1, .int .i64 b1, .int .i64 a1, .int .i64 z1, .slice (some ⟨g3, o3, none⟩) xs1.length cr1, .slice W1 us1.length cw1, .slice (some ⟨g2, o2, none⟩) fs1.length cf1] 65)) y) z _ _ hgl).trans q4
          have p5 := fun z => (cell?_plus (plus (w.alloc (.cells #[.int .i64 g1, .int .i64 k1, .bool s1, .bool t1, .int .i64 b1, .int .i64 a1, .int .i64 z1, .slice (some ⟨g3, o3, none⟩) xs1.length cr1, .slice W1 us1.length cw1, .slice (some ⟨g2, o2, none⟩) fs1.length cf1] 65)) y) z _ _ hgl).trans q5
          have p6 := fun z => (cell?_plus (plus (w.alloc (.cells #[.int .i64 g1, .int .i64 k1, .bool s1, .bool t1, .int .i64 b1, .int .i64 a1, .int .i64 z1, .slice (some ⟨g3, o3, none⟩) xs1.length cr1, .slice W1 us1.length cw1, .slice (some ⟨g2, o2, none⟩) fs1.length cf1] 65)) y) z _ _ hgl).trans q6
          have p7 := fun z => (cell?_plus (plus (w.alloc (.cells #[.int .i64 g1, .int .i64 k1, .bool s1, .bool t1, .int .i64 b1, .int .i64 a1, .int .i64 z1, .slice (some ⟨g3, o3, none⟩) xs1.length cr1, .slice W1 us1.length cw1, .slice (some ⟨g2, o2, none⟩) fs1.length cf1] 65)) y) z _ _ hgl).trans q7
          have p8 := fun z => (cell?_plus (plus (w.alloc (.cells #[.int .i64 g1, .int .i64 k1, .bool s1, .bool t1, .int .i64 b1, .int .i64 a1, .int .i64 z1, .slice (some ⟨g3, o3, none⟩) xs1.length cr1, .slice W1 us1.length cw1, .slice (some ⟨g2, o2, none⟩) fs1.length cf1] 65)) y) z _ _ hgl).trans q8
          have p9 := fun z => (cell?_plus (plus (w.alloc (.cells #[.int .i64 g1, .int .i64 k1, .bool s1, .bool t1, .int .i64 b1, .int .i64 a1, .int .i64 z1, .slice (some ⟨g3, o3, none⟩) xs1.length cr1, .slice W1 us1.length cw1, .slice (some ⟨g2, o2, none⟩) fs1.length cf1] 65)) y) z _ _ hgl).trans q9
          have HMU := Lib.hid (show EM (plus (w.alloc (.cells #[.int .i64 g1, .int .i64 k1, .bool s1, .bool t1, .int .i64 b1, .int .i64 a1, .int .i64 z1, .slice (some ⟨g3, o3, none⟩) xs1.length cr1, .slice W1 us1.length cw1, .slice (some ⟨g2, o2, none⟩) fs1.length cf1] 65)) y) R4 W4 F4 xs4 us4 fs4 xs4.length cr4 us4.length cw4 fs4.length cf4 from hM)
          have haddm := add_addr g o (m * 10)
          have hmc : m < c := by omega
          have HOM : Hid (originM ((rs.take k).map (·.e)) (m : Int) b1 (a1 + j) = if writesM k4 = false ∨ b4 ≠ b1 ∨ a1 + (j : Int) < a4 ∨ a4 + z4 ≤ a1 + (j : Int) then none else some (us4.getD (a1 + (j : Int) - a4).toNat 0)) := Lib.hid (by
            unfold originM
            rw [if_neg c1, if_neg (by rw [List.length_map, hlk]; omega), Int.toNat_natCast, hut])
          clear q0 q1 q2 q3 q4 q5 q6 q7 q8 q9 hM hut hum hx hxm hsx c1
          obtain ⟨cw, hcw⟩ : ∃ c, writesM k4 = c := ⟨_, rfl⟩
          have HWW := Lib.hid hcw
          cases cw
          · have hr0 : r = false := HNO.out (fun h => by rw [HRA.out, HOM.out, if_pos (.inl hcw)] at h; cases h)
            subst hr0
            clear hcw hFit hlk
            go_wp2_with fail
            refine wp_region_plus (by kernel_rfl) (by kernel_rfl) ?_
            repeat (go_big_quiet_step ((go_at_call 79; exact calls_plus (rwrites_n HWW _))))
            refine wpQuiet_nil ?_
            intro _ hw'
            obtain ⟨z, rfl⟩ := hw'
            clear hw
            go_wp2_with fail
            go_returns
            exact ⟨rfl, (by repeat' (first | exact Plus.refl _ | refine Plus.alloc ?_ _ | refine Plus.plus ?_ _ | refine Plus.drew ?_ | refine Plus.drewN ?_ _))⟩
          · obtain ⟨v1, v2, v3, v4, v5⟩ := hFit hcw
            simp only at v1 v2 v3 v4 v5
            have j1 : I64 a4 := by unfold I64; omega
            have j2 : I64 z4 := by unfold I64; omega
            have j3 : I64 (a1 + (j : Int)) := by unfold I64; omega
            have hk4 : (k4 != 0) = true := by
              unfold writesM at hcw
              simp at hcw ⊢
              omega
            have hcov : coversM k4 b4 a4 z4 b1 (a1 + j) = true ↔ b4 = b1 ∧ a4 ≤ a1 + (j : Int) ∧ a1 + (j : Int) < a4 + z4 := by
              unfold coversM
              rw [hk4]
              simp
              omega
            clear hk4 hFit
            obtain ⟨cc, hcc⟩ : ∃ c, coversM k4 b4 a4 z4 b1 (a1 + j) = c := ⟨_, rfl⟩
            have HCV := Lib.hid hcc
            rw [hcc] at hcov
            cases cc
            · have hr0 : r = false := HNO.out (fun h => by
                rw [HRA.out, HOM.out, if_pos (by
                  by_cases hb : b4 = b1
                  · have hn : ¬ (a4 ≤ a1 + (j : Int) ∧ a1 + (j : Int) < a4 + z4) := fun h2 => by
                      have := hcov.2 ⟨hb, h2.1, h2.2⟩
                      cases this
                    omega
                  · exact .inr (.inl hb))] at h
                cases h)
              subst hr0
              clear hcov hcc hcw hlk v5
              go_wp2_with fail
              refine wp_region_plus (by kernel_rfl) (by kernel_rfl) ?_
              repeat (go_big_quiet_step ((first | (go_at_call 79; exact calls_plus (rwrites_n HWW _)) | (go_at_call 80; exact calls_plus (covers_n HCV _ j1 j2 j3)))))
              refine wpQuiet_nil ?_
              intro _ hw'
              obtain ⟨z, rfl⟩ := hw'
              clear hw
              go_wp2_with fail
              go_returns
              exact ⟨rfl, (by repeat' (first | exact Plus.refl _ | refine Plus.alloc ?_ _ | refine Plus.plus ?_ _ | refine Plus.drew ?_ | refine Plus.drewN ?_ _))⟩
            · obtain ⟨rfl, w1, w2⟩ := hcov.1 rfl
              obtain ⟨jj, hjj⟩ : ∃ jj : Nat, a1 + (j : Int) = a4 + (jj : Int) := ⟨(a1 + (j : Int) - a4).toNat, by omega⟩
              have hjw : jj < us4.length := by omega
              obtain ⟨v, hv⟩ : ∃ v, us4.getD jj 0 = v := ⟨_, rfl⟩
              have HV := Lib.hid hv
              have HOV : Hid (originM ((rs.take k).map (·.e)) (m : Int) b4 (a1 + j) = some v) := Lib.hid (by rw [HOM.out, if_neg (by rw [hcw]; rintro (h | h | h | h); cases h; exact h rfl; omega; omega), hjj, show a4 + (jj : Int) - a4 = (jj : Int) by omega, Int.toNat_natCast, hv])
              have HPJ := Lib.hid hjj
              clear hcov hcc hcw hlk hjj hv
              have hA2 : us4.length ≤ 1000 := by omega
              have hA0 : 0 ≤ a4 := v1
              have hA1 : a4 ≤ 1000 := by omega
              clear v5
              by_cases hvr : v = rv
              · subst hvr
                have HYES := Lib.hid (HST.out (HRA.out.2 HOV.out))
                go_wp2_with fail
                refine wp_region_plus (by kernel_rfl) (by kernel_rfl) ?_
                repeat (go_big_quiet_step ((first | (go_at_call 79; exact calls_plus (rwrites_n HWW _)) | (go_at_call 80; exact calls_plus (covers_n HCV _ j1 j2 j3)) | (go_at_call 84; exact calls_plus (wrote_n _ (HMU.out.ew.plus (by repeat' (first | exact Plus.refl _ | refine Plus.alloc ?_ _ | refine Plus.plus ?_ _ | refine Plus.drew ?_ | refine Plus.drewN ?_ _))) hjw HPJ.out hA0 hA1 hA2 HV)))))
                refine wpQuiet_nil ?_
                intro _ hw'
                obtain ⟨z, rfl⟩ := hw'
                clear hw
                go_wp2_with fail
                go_roundw
                case rel => exact ⟨⟨j + 1, hjl, int_eq (by omega), HYES.out⟩, (by repeat' (first | exact Plus.refl _ | refine Plus.alloc ?_ _ | refine Plus.plus ?_ _ | refine Plus.drew ?_ | refine Plus.drewN ?_ _))⟩
                case measure => simp [intOf]; omega
              · have hr0 : r = false := HNO.out (fun h => by rw [HRA.out, HOV.out] at h; exact hvr (Option.some.inj h))
                subst hr0
                have b2 : (v != rv) = true := by simpa using hvr
                clear hvr
                go_wp2_with fail
                refine wp_region_plus (by kernel_rfl) (by kernel_rfl) ?_
                repeat (go_big_quiet_step ((first | (go_at_call 79; exact calls_plus (rwrites_n HWW _)) | (go_at_call 80; exact calls_plus (covers_n HCV _ j1 j2 j3)) | (go_at_call 84; exact calls_plus (wrote_n _ (HMU.out.ew.plus (by repeat' (first | exact Plus.refl _ | refine Plus.alloc ?_ _ | refine Plus.plus ?_ _ | refine Plus.drew ?_ | refine Plus.drewN ?_ _))) hjw HPJ.out hA0 hA1 hA2 HV)))))
                refine wpQuiet_nil ?_
                intro _ hw'
                obtain ⟨z, rfl⟩ := hw'
                clear hw
                go_wp2_with fail
                go_returns
                exact ⟨rfl, (by repeat' (first | exact Plus.refl _ | refine Plus.alloc ?_ _ | refine Plus.plus ?_ _ | refine Plus.drew ?_ | refine Plus.drewN ?_ _))⟩
    · obtain rfl : j = fs1.length := by omega
      have hr1 : r = true := HR.out.1 (fun i hi => by rw [HU.out] at hi ⊢; rw [← List.map_take]; exact hin i hi)
      subst hr1
      clear hin
      go_wp2_with fail
      go_returns
      exact ⟨rfl, (by repeat' (first | exact Plus.refl _ | refine Plus.alloc ?_ _ | refine Plus.plus ?_ _ | refine Plus.drew ?_ | refine Plus.drewN ?_ _))⟩
end Go.Proofs.YtmfdlcicbiincaaDoor
