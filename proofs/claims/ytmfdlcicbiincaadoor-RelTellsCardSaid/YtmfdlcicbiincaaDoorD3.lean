/- The document's Syncs. -/
import Derived.WalkKit
import Derived.WalkSpells
import Derived.WalkLawsBesides
import Derived.Handy
import Derived.Deep.RegionHeld3
import Derived.Deep.DeepCutAuto
import Derived.Deep.QuietTactic
import Derived.BigQuiet
import Derived.Lib.Hide
import Derived.KernelRfl
import Derived.WalkMore
import Derived.Deep.LoopGhost
import Derived.IntWalk
import Derived.Deep.RegionLaw
import Derived.RangeFuncBox
import Derived.Test.YtmfdlcicbiincaaDoorDA
import Derived.Test.YtmfdlcicbiincaaDoorR2
import Derived.Test.YtmfdlcicbiincaaDoorK12
import Derived.Test.YtmfdlcicbiincaaDoorK13
import Derived.Test.YtmfdlcicbiincaaDoorK17
namespace Go.Proofs.YtmfdlcicbiincaaDoor
open Go.RowKit


/-- An event of the document in a box. -/
def BxR (w : World) (b : Nat) (x : ER) : Prop := w.heap[b]? = some (.cells (evL x).toArray 65 (0, 0))
section
variable {w w' : World} {b : Nat} {x : ER}
theorem BxR.plus (h : BxR w b x) (hp : Plus w w') : BxR w' b x := (hp.below.block b (Array.getElem?_eq_some_iff.1 h).1).trans h
theorem BxR.lt (h : BxR w b x) : b < w.heap.size := (Array.getElem?_eq_some_iff.1 h).1
theorem BxR.cells (h : BxR w b x) : w.cell? ⟨b, 0, none⟩ = some (.int .i64 x.e.g) ∧ w.cell? ⟨b, 1, none⟩ = some (.int .i64 x.e.k) ∧ w.cell? ⟨b, 2, none⟩ = some (.bool x.e.s) ∧ w.cell? ⟨b, 3, none⟩ = some (.bool x.e.t) ∧ w.cell? ⟨b, 4, none⟩ = some (.int .i64 x.e.b) ∧ w.cell? ⟨b, 5, none⟩ = some (.int .i64 x.e.a) ∧ w.cell? ⟨b, 6, none⟩ = some (.int .i64 x.e.z) ∧ w.cell? ⟨b, 7, none⟩ = some (.slice x.R x.e.r.length x.cr) ∧ w.cell? ⟨b, 8, none⟩ = some (.slice x.W x.e.w.length x.cw) ∧ w.cell? ⟨b, 9, none⟩ = some (.slice x.F x.e.f.length x.cf) := by
  refine ⟨?_, ?_, ?_, ?_, ?_, ?_, ?_, ?_, ?_, ?_⟩ <;> (rw [cell_of_row w b _ _ _ _ h]; rfl)
theorem BxR.new (w : World) (x : ER) (b : Nat) (hb : b = w.heap.size) : BxR (w.alloc (.cells (evL x).toArray 65)) b x := by
  rw [hb]
  exact World.alloc_heap_new w _
end

def SiR (l : List Ev) (a b : Nat) : Nat → Nat → Bool := fun x y => frmB l x y && (!decide (x < a ∨ (x = a ∧ y < b)) || synB l x y)
def SpR (l : List Ev) (ps : List Pr) (i : Nat) : Nat → Nat → Bool := fun x y => (frmB l x y && synB l x y) || prB (ps.take i) x y
theorem siR_next {l : List Ev} {a b : Nat} {v : Bool} (hv : v = (frmB l a b && synB l a b)) (x y : Nat) : upd (SiR l a b) a b v x y = SiR l a (b + 1) x y := by
  unfold upd SiR
  by_cases e : x = a ∧ y = b
  · obtain ⟨rfl, rfl⟩ := e
    rw [if_pos ⟨rfl, rfl⟩, hv]
    have q : decide (x < x ∨ x = x ∧ y < y + 1) = true := decide_eq_true (by omega)
    rw [q]
    rfl
  · rw [if_neg e]
    have q : decide (x < a ∨ x = a ∧ y < b) = decide (x < a ∨ x = a ∧ y < b + 1) := by rw [decide_eq_decide]; omega
    rw [q]
theorem siR_row {l : List Ev} {a n : Nat} {x y : Nat} (hy : y < n) : SiR l a n x y = SiR l (a + 1) 0 x y := by
  unfold SiR
  have q : decide (x < a ∨ x = a ∧ y < n) = decide (x < a + 1 ∨ x = a + 1 ∧ y < 0) := by rw [decide_eq_decide]; omega
  rw [q]
set_option maxRecDepth 100000 in
set_option maxHeartbeats 16000000 in
theorem rsync_t {l : List Ev} {ps : List Pr} {A B : Option Addr} {n c m d : Nat} (w : World) (H : Lg w l ps A n c B m d) (HM0 : Hid (MayR l ps true)) (HMM : Hid (MayP l ps)) (HSM : Hid (SmL l)) : Calls Tryd.prog 17 #[.agg #[.slice A n c, .slice B m d]] w (RetMx n (sncB l ps) w) := by
  have hn : n ≤ 1000 := by rw [H.len.1]; exact HMM.out.1
  have HLN := Lib.hid H.len
  obtain ⟨rs, hrl, hes⟩ := H.ev
  have HES := Lib.hid hes
  have HRL := Lib.hid hrl
  have HPA := Lib.hid H.pa
  have hcap := hes.cap
  have hmx := hes.max
  have hpc := HPA.out.cap
  have hpm := HPA.out.max
  have HLG := Lib.hid H
  clear hes hrl H
  go_enter Tryd.func17, Tryd.ntmps17
  go_wp2_with (first | (go_at_call 15; (with_reducible refine (rfrom_t _ (HLG.out.plus (by repeat' (first | exact Plus.refl _ | refine Plus.alloc ?_ _ | refine Plus.plus ?_ _ | refine Plus.drew ?_ | refine Plus.drewN ?_ _))) HM0 HMM HSM).mono ?_); rintro e xw ⟨g, hs, rfl, hMx, ⟨x1, rfl⟩⟩; have HMX := Lib.hid hMx; clear hMx))
  obtain ⟨W0, hW0⟩ : ∃ W0, w.alloc (.cells #[.slice A n c, .slice B m d] 30) = W0 := ⟨_, rfl⟩
  have hBX : Bt 30 W0 w.heap.size (.slice A n c) (.slice B m d) := by rw [← hW0]; exact (bt_new w _ _ _ rfl)
  have hP0 : Plus w W0 := by rw [← hW0]; exact (by repeat' (first | exact Plus.refl _ | refine Plus.alloc ?_ _ | refine Plus.plus ?_ _ | refine Plus.drew ?_ | refine Plus.drewN ?_ _))
  have hmx0 := HMX.out
  rw [hW0] at hmx0 ⊢
  have hzw : w.heap.size ≤ W0.heap.size := hP0.below.size
  have c0 := hBX.c0
  have c1 := hBX.c1
  haveI : Old w.heap.size W0 := ⟨hBX.lt⟩
  have HMX0 : Hid (Mx (plus W0 x1) W0.heap.size g n (frmB l) hs) := Lib.hid hmx0
  clear hBX hmx0 HMX hW0
  go_loopw [4] (fun s4 wr => ∃ a : Nat, s4 = .int .i64 a ∧ a ≤ n ∧ Hid (Mx wr W0.heap.size g n (SiR l a 0) hs) ∧ Below W0.heap.size W0 wr) (fun s4 _ => ((n : Int) - intOf s4).toNat)
  case atStart => exact ⟨0, rfl, Nat.zero_le _, Lib.hid (HMX0.out.ext fun a b _ _ => by
    unfold SiR
    have q : decide (a < 0 ∨ a = 0 ∧ b < 0) = false := decide_eq_false (by omega)
    rw [q]
    simp), Plus.below (Plus.is x1)⟩
  case round =>
    obtain ⟨a, rfl, ha, HM, hB⟩ := hrel
    clear HMX0
    obtain ⟨x0, rfl⟩ := Plus.of_below hB
    by_cases hlt : a < n
    · have hlt' : (a : Int) < n := by omega
      obtain ⟨g1, o1, e1, rfl, _⟩ := (HES.out.plus hP0).at_ hlt
      have lg1 : g1 < W0.heap.size := by
        obtain ⟨g2, o2, e, q, _⟩ := (HES.out.plus hP0).rd (by rw [← HES.out.len]; omega)
        injection e with e
        injection e with e _ _
        rw [e]
        exact q
      haveI : Old g1 W0 := ⟨lg1⟩
      go_wp2_with fail
      go_loopw [5] (fun s5 wr => ∃ b : Nat, s5 = .int .i64 b ∧ b ≤ n ∧ Hid (Mx wr W0.heap.size g n (SiR l a b) hs) ∧ Below W0.heap.size W0 wr) (fun s5 _ => ((n : Int) - intOf s5).toNat)
      case atStart => exact ⟨0, rfl, Nat.zero_le _, HM, hB⟩
      case round =>
        obtain ⟨b, rfl, hb, HMI, hBi⟩ := hrel
        obtain ⟨xi, rfl⟩ := Plus.of_below hBi
        by_cases hlb : b < n
        · have hlb' : (b : Int) < n := by omega
          go_upto_region 8 with fail
          obtain ⟨g2', o2', e2, hA2, hx2, hm2, hM2, r0, r1, r2, r3, r4, r5, r6, r7, r8, r9⟩ := (HES.out.plus (hP0.trans (Plus.is xi))).at_ hlt
          injection hA2 with hA2
          injection hA2 with hg2 ho2 _
          subst hg2 ho2
          have u2 := getD_map (show a < rs.length by rw [← HES.out.len]; exact hlt) hx2
          rw [HRL.out] at u2
          have hadd2 := add_addr g1 o1 (a * 10)
          obtain ⟨e2, R2, cr2, X2, cw2, F2, cf2⟩ := e2
          simp only at r0 r1 r2 r3 r4 r5 r6 r7 r8 r9 u2
          clear hx2 hm2 hM2
          obtain ⟨g3', o3', e3, hA3, hx3, hm3, hM3, q0, q1, q2, q3, q4, q5, q6, q7, q8, q9⟩ := (HES.out.plus (hP0.trans (Plus.is xi))).at_ hlb
          injection hA3 with hA3
          injection hA3 with hg3 ho3 _
          subst hg3 ho3
          have u3 := getD_map (show b < rs.length by rw [← HES.out.len]; exact hlb) hx3
          rw [HRL.out] at u3
          have hadd3 := add_addr g1 o1 (b * 10)
          obtain ⟨e3, R3, cr3, X3, cw3, F3, cf3⟩ := e3
          simp only at q0 q1 q2 q3 q4 q5 q6 q7 q8 q9 u3
          clear hx3 hm3 hM3
          obtain ⟨sx, hsx⟩ : ∃ v, e2.s = v := ⟨_, rfl⟩
          obtain ⟨sy, hsy⟩ : ∃ v, e3.s = v := ⟨_, rfl⟩
          obtain ⟨ee, hee⟩ : ∃ v, equalM e2.k e2.b e2.a e2.z e3.k e3.b e3.a e3.z = v := ⟨_, rfl⟩
          obtain ⟨fr, hfr⟩ : ∃ v, frmB l a b = v := ⟨_, rfl⟩
          have HSN := Lib.hid (show synB l a b = (sx && (sy && ee)) by
            unfold synB
            rw [u2, u3, ← hsx, ← hsy, ← hee]
            rfl)
          have HSX := Lib.hid hsx
          have HSY := Lib.hid hsy
          have HEE := Lib.hid hee
          have HFR := Lib.hid hfr
          clear hsx hsy hee hfr u2 u3
          go_cut [6, 7] (fun s6 s7 wx => ∃ b1 b2, s6 = .pointer (some ⟨b1, 0, none⟩) ∧ s7 = .pointer (some ⟨b2, 0, none⟩) ∧ BxR wx b1 ⟨e2, R2, cr2, X2, cw2, F2, cf2⟩ ∧ BxR wx b2 ⟨e3, R3, cr3, X3, cw3, F3, cf3⟩ ∧ Plus (plus W0 xi) wx)
          case first =>
            go_region
            all_goals go_wp2_with fail
            all_goals go_meet
            · exact ⟨_, _, rfl, rfl, (BxR.new (plus W0 xi) ⟨e2, R2, cr2, X2, cw2, F2, cf2⟩ _ (by simp [go_sem])).plus (by repeat' (first | exact Plus.refl _ | refine Plus.alloc ?_ _ | refine Plus.plus ?_ _ | refine Plus.drew ?_ | refine Plus.drewN ?_ _)), (BxR.new ((plus W0 xi).alloc (.cells (evL ⟨e2, R2, cr2, X2, cw2, F2, cf2⟩).toArray 65)) ⟨e3, R3, cr3, X3, cw3, F3, cf3⟩ _ (by simp [go_sem])).plus (by repeat' (first | exact Plus.refl _ | refine Plus.alloc ?_ _ | refine Plus.plus ?_ _ | refine Plus.drew ?_ | refine Plus.drewN ?_ _)), (by repeat' (first | exact Plus.refl _ | refine Plus.alloc ?_ _ | refine Plus.plus ?_ _ | refine Plus.drew ?_ | refine Plus.drewN ?_ _))⟩
            · exact ⟨_, _, rfl, rfl, (BxR.new ((plus W0 xi).alloc (.cells (evL ⟨e3, R3, cr3, X3, cw3, F3, cf3⟩).toArray 65)) ⟨e2, R2, cr2, X2, cw2, F2, cf2⟩ _ (by simp [go_sem])).plus (by repeat' (first | exact Plus.refl _ | refine Plus.alloc ?_ _ | refine Plus.plus ?_ _ | refine Plus.drew ?_ | refine Plus.drewN ?_ _)), (BxR.new (plus W0 xi) ⟨e3, R3, cr3, X3, cw3, F3, cf3⟩ _ (by simp [go_sem])).plus (by repeat' (first | exact Plus.refl _ | refine Plus.alloc ?_ _ | refine Plus.plus ?_ _ | refine Plus.drew ?_ | refine Plus.drewN ?_ _)), (by repeat' (first | exact Plus.refl _ | refine Plus.alloc ?_ _ | refine Plus.plus ?_ _ | refine Plus.drew ?_ | refine Plus.drewN ?_ _))⟩
          case rest =>
            obtain ⟨b1, b2, rfl, rfl, hB1, hB2, ⟨xz, rfl⟩⟩ := hcut
            obtain ⟨ea0, ea1, ea2, ea3, ea4, ea5, ea6, ea7, ea8, ea9⟩ := hB1.cells
            obtain ⟨eb0, eb1, eb2, eb3, eb4, eb5, eb6, eb7, eb8, eb9⟩ := hB2.cells
            simp only at ea0 ea1 ea2 ea3 ea4 ea5 ea6 ea7 ea8 ea9 eb0 eb1 eb2 eb3 eb4 eb5 eb6 eb7 eb8 eb9
            rw [HSX.out] at ea2
            rw [HSY.out] at eb2
            haveI : Old b1 (plus (plus W0 xi) xz) := ⟨hB1.lt⟩
            haveI : Old b2 (plus (plus W0 xi) xz) := ⟨hB2.lt⟩
            have HMZ := HMI.out.plus (Plus.is (w := plus W0 xi) xz)
            have hBz : Below W0.heap.size W0 (plus (plus W0 xi) xz) := Plus.below (by repeat' (first | exact Plus.refl _ | refine Plus.alloc ?_ _ | refine Plus.plus ?_ _ | refine Plus.drew ?_ | refine Plus.drewN ?_ _))
            obtain ⟨h, hh, hcy, hgl, hhl, hrow, hhB, hne⟩ := HMZ.at_ hlt
            have hcb := hrow.cell hlb
            have hfb := hrow.frozen b
            haveI : Old g (plus (plus W0 xi) xz) := ⟨hgl⟩
            haveI : Old h (plus (plus W0 xi) xz) := ⟨hhl⟩
            have hRab : SiR l a b a b = fr := by
              unfold SiR
              have q : decide (a < a ∨ a = a ∧ b < b) = false := decide_eq_false (by omega)
              rw [q, HFR.out]
              simp
            rw [hRab] at hcb
            have HNX := Lib.hid (show ∀ v, v = (fr && (sx && (sy && ee))) → ∀ V, Plus (plus (plus W0 xi) xz) V → Mx (V.setCell ⟨h, b, none⟩ (.bool v)) W0.heap.size g n (SiR l a (b + 1)) hs ∧ Below W0.heap.size W0 (V.setCell ⟨h, b, none⟩ (.bool v)) from fun v hv V hV => ⟨((HMZ.plus hV).set (v := v) hlt hlb hh.out).ext fun x y _ _ => siR_next (by rw [hv, HFR.out, HSN.out]) x y, (hBz.trans (hV.below.mono (by have := hBz.size; omega))).setCell (p := ⟨h, b, none⟩) hhB (.bool v)⟩)
            clear hB1 hB2 hrow HMZ hRab q0 q1 q2 q3 q4 q5 q6 q7 q8 q9 r0 r1 r2 r3 r4 r5 r6 r7 r8 r9
            go_upto_region 9 with fail
            by_cases hall : fr = true ∧ sx = true ∧ sy = true
            · obtain ⟨rfl, rfl, rfl⟩ := hall
              go_region_with (go_at_call 54; (with_reducible refine (requal_n HEE _).mono ?_); rintro e xw ⟨rfl, ⟨y5, rfl⟩⟩)
              all_goals go_wp2_with fail
              all_goals first
                | exact ⟨⟨b + 1, int_eq (by omega), by omega, Lib.hid ((HNX.out ee rfl _ (Plus.refl _)).1.plus (Plus.is y5)), ((Plus.of_below (HNX.out ee rfl _ (Plus.refl _)).2).plus y5).below⟩, by simp [intOf]; omega⟩
                | exact ⟨⟨b + 1, int_eq (by omega), by omega, Lib.hid ((HNX.out ee rfl _ (Plus.is y5)).1), (HNX.out ee rfl _ (Plus.is y5)).2⟩, by simp [intOf]; omega⟩
            · have hz : (fr && (sx && (sy && ee))) = false := by cases fr <;> cases sx <;> cases sy <;> simp_all
              have HZ := Lib.hid (HNX.out false hz.symm _ (Plus.refl _))
              cases fr
              · clear hall hz
                go_region
                all_goals go_wp2_with fail
                all_goals first
                  | exact ⟨⟨b + 1, int_eq (by omega), by omega, Lib.hid HZ.out.1, HZ.out.2⟩, by simp [intOf]; omega⟩
                  | exact ⟨⟨b + 1, int_eq (by omega), by omega, Lib.hid (HZ.out.1.plus (Plus.drew (Plus.refl _))), HZ.out.2.drew⟩, by simp [intOf]; omega⟩
              · cases sx
                · clear hall hz
                  go_region
                  all_goals go_wp2_with fail
                  all_goals first
                    | exact ⟨⟨b + 1, int_eq (by omega), by omega, Lib.hid HZ.out.1, HZ.out.2⟩, by simp [intOf]; omega⟩
                    | exact ⟨⟨b + 1, int_eq (by omega), by omega, Lib.hid (HZ.out.1.plus (Plus.drew (Plus.refl _))), HZ.out.2.drew⟩, by simp [intOf]; omega⟩
                · cases sy
                  · clear hall hz
                    go_region
                    all_goals go_wp2_with fail
                    all_goals first
                      | exact ⟨⟨b + 1, int_eq (by omega), by omega, Lib.hid HZ.out.1, HZ.out.2⟩, by simp [intOf]; omega⟩
                      | exact ⟨⟨b + 1, int_eq (by omega), by omega, Lib.hid (HZ.out.1.plus (Plus.drew (Plus.refl _))), HZ.out.2.drew⟩, by simp [intOf]; omega⟩
                  · exact absurd ⟨rfl, rfl, rfl⟩ hall
        · obtain rfl : n = b := by omega
          have HMN := Lib.hid (HMI.out.ext (R2 := SiR l (a + 1) 0) fun x y _ hy => siR_row hy)
          go_wp2_with fail
          go_roundw
          case rel => exact ⟨a + 1, int_eq (by omega), by omega, HMN, hBi⟩
          case measure => simp [intOf]; omega
    · obtain rfl : n = a := by omega
      have HSP := Lib.hid (HM.out.ext (R2 := SpR l ps 0) fun x y hx _ => by
        unfold SiR SpR
        have q : decide (x < n ∨ x = n ∧ y < 0) = true := decide_eq_true (by omega)
        rw [q]
        simp [prB])
      clear HM
      go_wp2_with fail
      go_loopw [8] (fun s8 wr => ∃ i : Nat, s8 = .int .i64 i ∧ i ≤ m ∧ Hid (Mx wr W0.heap.size g n (SpR l ps i) hs) ∧ Below W0.heap.size W0 wr) (fun s8 _ => ((m : Int) - intOf s8).toNat)
      case atStart => exact ⟨0, rfl, Nat.zero_le _, HSP, hB⟩
      case round =>
        obtain ⟨i, rfl, hi, HMI, hBi⟩ := hrel
        obtain ⟨xi, rfl⟩ := Plus.of_below hBi
        by_cases hil : i < m
        · have hil' : (i : Int) < m := by omega
          have hip : i < ps.length := by rw [← HPA.out.len]; exact hil
          obtain ⟨gp, op, rfl, lp, hat⟩ := (HPA.out.rd.plus hP0) (by omega)
          haveI : Old gp W0 := ⟨lp⟩
          obtain ⟨v0, v1⟩ := hat i hip
          have hok := HMM.out.2.2.1 i hip
          have htk := take_pr hip
          obtain ⟨⟨u0, u1⟩, hu⟩ : ∃ u, ps.getD i (0, 0) = u := ⟨_, rfl⟩
          rw [hu] at v0 v1 hok htk
          unfold pairOk amongM at hok
          simp at hok v0 v1
          obtain ⟨x, rfl⟩ : ∃ q : Nat, u0 = q := ⟨u0.toNat, by omega⟩
          obtain ⟨y, rfl⟩ : ∃ q : Nat, u1 = q := ⟨u1.toNat, by omega⟩
          have hln := HLN.out.1
          have hxn : x < n := by omega
          have hyn : y < n := by omega
          have hxn' : (x : Int) < n := by omega
          have hyn' : (y : Int) < n := by omega
          have hn0 : (0 : Int) < n := by omega
          have hadd3 := add_addr gp op (i * 2)
          have HTK := Lib.hid htk
          obtain ⟨h, hh, hcy, hgl, hhl, hrow, hhB, hne⟩ := HMI.out.at_ hxn
          have hcb := hrow.cell hyn
          have hfb := hrow.frozen y
          haveI : Old g (plus W0 xi) := ⟨hgl⟩
          haveI : Old h (plus W0 xi) := ⟨hhl⟩
          have HMN := Lib.hid ((HMI.out.set (v := true) hxn hyn hh.out).ext (R2 := SpR l ps (i + 1)) fun p q _ _ => by
            unfold upd SpR
            rw [HTK.out, prB_snoc]
            by_cases e : p = x ∧ q = y
            · obtain ⟨rfl, rfl⟩ := e
              rw [if_pos ⟨rfl, rfl⟩]
              simp
            · rw [if_neg e]
              have e3 : (p == x && q == y) = false := by
                cases q3 : (p == x && q == y)
                · rfl
                · simp at q3
                  exact absurd q3 e
              rw [e3, Bool.or_false])
          have HBN := Lib.hid (hBi.setCell (p := ⟨h, y, none⟩) hhB (.bool true))
          clear hrow hat hu hok htk hln
          go_upto_region 13 with fail
          go_region
          all_goals go_wp2_with fail
          all_goals first
            | exact ⟨⟨i + 1, int_eq (by omega), by omega, HMN, HBN.out⟩, by simp [intOf]; omega⟩
            | exact ⟨⟨i + 1, int_eq (by omega), by omega, Lib.hid (HMN.out.plus (Plus.drew (Plus.refl _))), HBN.out.drew⟩, by simp [intOf]; omega⟩
        · obtain rfl : m = i := by omega
          go_wp2_with fail
          go_returns
          exact ⟨g, hs, rfl, (HMI.out.base hzw).ext fun x y _ _ => by
            unfold SpR sncB
            rw [HLN.out.2, List.take_length], hP0.trans (Plus.is xi)⟩
end Go.Proofs.YtmfdlcicbiincaaDoor
