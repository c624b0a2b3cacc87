/- From. -/
import Derived.WalkKit
import Derived.WalkSpells
import Derived.WalkLawsBesides
import Derived.Handy
import Derived.Deep.RegionHeld3
import Derived.Deep.DeepCutAuto
import Derived.Deep.QuietTactic
import Derived.BigQuiet
import Derived.Lib.Hide
import Derived.KernelRfl
import Derived.WalkMore
import Derived.Deep.LoopGhost
import Derived.IntWalk
import Derived.Deep.RegionLaw
import Derived.RangeFuncBox
import Derived.Test.YtmfdlcicbiincaaDoorK7
import Derived.Test.YtmfdlcicbiincaaDoorE17
namespace Go.Proofs.YtmfdlcicbiincaaDoor
open Go.RowKit


/-- Reads from. -/
def frmB (l : List Ev) (a b : Nat) : Bool := decide ((a : Int) ∈ (l.getD b default).f) && decide (b < l.length)
theorem from_lt {l : List Ev} {ps : List Pr} (h : MayP l ps) {b : Nat} (hb : b < l.length) {i : Nat} (hi : i < (l.getD b default).f.length) : (l.getD b default).f.getD i 0 = -1 ∨ (0 ≤ (l.getD b default).f.getD i 0 ∧ (l.getD b default).f.getD i 0 < b) := by
  have q := (h.2.2.2 b hb).2 i hi
  unfold readAt originM at q
  by_cases h1 : (l.getD b default).f.getD i 0 = -1
  · exact .inl h1
  · rw [if_neg h1] at q
    split at q
    · cases q
    · rename_i h2
      rw [List.length_take] at h2
      right
      omega
theorem bx_at (W : World) (t : TypeId) (v : Value) {b : Nat} (hb : b = W.heap.size) : Boxed (W.alloc (.cells #[v] t)) b t v := by
  subst hb
  exact Boxed.new W t v
/-- A relation that is returned. -/
def RetRl (n K : Nat) (R : Nat → Nat → Bool) (w : World) (e : Ending) (w' : World) : Prop := ∃ p hs, e = .returned (.pointer (some ⟨p, 0, none⟩)) ∧ Rl w' w.heap.size p n K R hs ∧ Plus w w'
theorem rl_none (w : World) (B K p : Nat) (R : Nat → Nat → Bool) (hb : Boxed w p 69 (.slice none 0 0)) (hp : B ≤ p) : Rl w B p 0 K R [] := ⟨⟨_, hb, World.ownsRow_nil _ _ _ _⟩, rfl, List.nodup_nil, fun _ h => absurd h (by simp), hp, fun a ha => absurd ha (by omega)⟩
set_option maxRecDepth 100000 in
set_option maxHeartbeats 4000000 in
theorem from_f {l : List Ev} {ps : List Pr} {A B : Option Addr} {n c m d K : Nat} {R : Nat → Nat → Bool} (w : World) (H : Lg w l ps A n c B m d) (HM : Hid (MayR l ps false)) : Calls Tryd.prog 14 #[.agg #[.slice A n c, .slice B m d]] w (RetRl 0 K R w) := by
  have H' := Lib.hid H
  clear H
  go_enter Tryd.func14, Tryd.ntmps14
  go_wp2_with (go_at_call 20; (with_reducible refine (may_s _ HM (H'.out.plus (by repeat' (first | exact Plus.refl _ | refine Plus.alloc ?_ _ | refine Plus.plus ?_ _ | refine Plus.drew ?_ | refine Plus.drewN ?_ _)))).mono ?_); rintro e xw ⟨rfl, ⟨x1, rfl⟩⟩)
  go_returns
  refine ⟨_, [], rfl, rl_none _ _ _ _ _ (bx_at _ _ _ (by simp [go_sem])) (by omega), (by repeat' (first | exact Plus.refl _ | refine Plus.alloc ?_ _ | refine Plus.plus ?_ _ | refine Plus.drew ?_ | refine Plus.drewN ?_ _))⟩

def Fr0 (w : World) (l : List Ev) (n K B p : Nat) (hs : List Nat) (s20 : Value) (wr : World) : Prop := ∃ b : Nat, s20 = .int .i64 b ∧ b ≤ n ∧ Rl wr B p n K (fun x y => frmB l x y && decide (y < b)) hs ∧ Below w.heap.size w wr
def Fr1 (w : World) (l : List Ev) (n K B p b : Nat) (fs : List Int) (hs : List Nat) (s28 : Value) (wr : World) : Prop := ∃ i : Nat, s28 = .int .i64 i ∧ i ≤ fs.length ∧ Rl wr B p n K (fun x y => (frmB l x y && decide (y < b)) || (decide ((x : Int) ∈ fs.take i) && y == b)) hs ∧ Below w.heap.size w wr
theorem Rl.lowat {w : World} {B p n K a h : Nat} {R : Nat → Nat → Bool} {hs : List Nat} (H : Rl w B p n K R hs) (ha : a < n) (hh : h = hs.getD a 0) : B ≤ h := by
  subst hh
  exact H.low _ (by rw [List.getD_eq_getElem?_getD, List.getElem?_eq_getElem (by rw [H.len]; exact ha)]; exact List.getElem_mem _)
theorem take_int {xs : List Int} {i : Nat} (hi : i < xs.length) : xs.take (i + 1) = xs.take i ++ [xs.getD i 0] := by
  rw [List.take_succ_eq_append_getElem hi, List.getD_eq_getElem?_getD, List.getElem?_eq_getElem hi]
  rfl
theorem Below.set {w w' : World} {B g i : Nat} {v : Value} (h : Below B w w') (hg : B ≤ g) : Below B w (w'.setCell ⟨g, i, none⟩ v) := h.setCell (p := ⟨g, i, none⟩) hg v
set_option maxRecDepth 100000 in
set_option maxHeartbeats 4000000 in
theorem from_t {l : List Ev} {ps : List Pr} {A B : Option Addr} {n c m d K : Nat} (w : World) (H : Lg w l ps A n c B m d) (HM : Hid (MayP l ps)) (hK : Hid (K = (n + 63) / 64)) : Calls Tryd.prog 14 #[.agg #[.slice A n c, .slice B m d]] w (RetRl n K (frmB l) w) := by
  have hn : n ≤ 1000 := by rw [H.len.1]; exact HM.out.1
  have hnl := Lib.hid H.len.1
  have hk := Lib.hid (show n ≤ 64 * K ∧ K ≤ 1000 by rw [hK.out]; omega)
  have HR := Lib.hid (show MayR l ps true from ⟨fun _ => rfl, fun _ => HM.out⟩)
  obtain ⟨⟨rs, hrl, hes⟩, hpa⟩ := H
  have hc := hes.cap
  have hcm := hes.max
  have HL := Lib.hid (show Lg w l ps A n c B m d from ⟨⟨rs, hrl, hes⟩, hpa⟩)
  have HE := Lib.hid hes
  have HRL := Lib.hid hrl
  clear hes hpa hrl
  go_enter Tryd.func14, Tryd.ntmps14
  go_wp2_with (first
    | (go_at_call 20; (with_reducible refine (may_s _ HR (HL.out.plus (by repeat' (first | exact Plus.refl _ | refine Plus.alloc ?_ _ | refine Plus.plus ?_ _ | refine Plus.drew ?_ | refine Plus.drewN ?_ _)))).mono ?_); rintro e xw ⟨rfl, ⟨x1, rfl⟩⟩)
    | (go_at_call 47; (with_reducible refine (without_c _ hK (by omega)).mono ?_); rintro e xw ⟨hs, rfl, hRl, _, ⟨x2, rfl⟩⟩; have HRl := Lib.hid hRl; clear hRl))
  go_loopw [20] (fun s20 wr => Fr0 w l n K w.heap.size (w.heap.size + 1 + x1.blocks.length) hs s20 wr) (fun s20 _ => ((n : Int) - intOf s20).toNat)
  case atStart =>
    refine ⟨0, rfl, Nat.zero_le _, ?_, Plus.below (by repeat' (first | exact Plus.refl _ | refine Plus.alloc ?_ _ | refine Plus.plus ?_ _ | refine Plus.drew ?_ | refine Plus.drewN ?_ _))⟩
    have q := HRl.out
    simp only [go_sem, World.size_alloc] at q
    exact (q.base (by omega)).ext (fun a b _ _ => by simp)
  case round =>
    obtain ⟨b, rfl, hb, hRw, hB⟩ := hrel
    clear HRl
    obtain ⟨x0, rfl⟩ := Plus.of_below hB
    have HRl := Lib.hid hRw
    have HB := Lib.hid hB
    clear hRw hB
    by_cases hlt : b < n
    · obtain ⟨g, o, x, rfl, hx, hxm, hM, q0, q1, q2, q3, q4, q5, q6, q7, q8, q9⟩ := (HE.out.plus (Plus.is x0)).at_ hlt
      have hu := getD_map (show b < rs.length by rw [← HE.out.len]; exact hlt) hx
      have hM0 := HE.out.mem x hxm
      obtain ⟨⟨g1, k1, s1, t1, b1, a1, z1, xs1, us1, fs1⟩, R1, cr1, W1, cw1, F1, cf1⟩ := x
      simp only at q0 q1 q2 q3 q4 q5 q6 q7 q8 q9 hM hM0 hu
      have HF := Lib.hid (show Ar .i64 w F1 fs1 fs1.length cf1 from hM0.ef)
      have hfc := hM.ef.cap
      have hfm := hM.ef.max
      have hadd := add_addr g o (b * 10)
      rw [HRL.out] at hu
      have HU := Lib.hid hu
      clear hM hM0 hu hxm hx
      go_wp2_with fail
      go_loopw [28] (fun s28 wr => Fr1 w l n K w.heap.size (w.heap.size + 1 + x1.blocks.length) b fs1 hs s28 wr) (fun s28 _ => ((fs1.length : Int) - intOf s28).toNat)
      case atStart => exact ⟨0, rfl, Nat.zero_le _, (HRl.out.plus (by repeat' (first | exact Plus.refl _ | refine Plus.alloc ?_ _ | refine Plus.plus ?_ _ | refine Plus.drew ?_ | refine Plus.drewN ?_ _))).ext (fun a b _ _ => by simp), HB.out.trans ((Plus.below (by repeat' (first | exact Plus.refl _ | refine Plus.alloc ?_ _ | refine Plus.plus ?_ _ | refine Plus.drew ?_ | refine Plus.drewN ?_ _))).mono (by simp [go_sem]))⟩
      case round =>
        obtain ⟨i, rfl, hi, hRw, hB⟩ := hrel
        clear HRl HB q0 q1 q2 q3 q4 q5 q6 q7 q8 q9
        obtain ⟨x3, rfl⟩ := Plus.of_below hB
        have HRl := Lib.hid hRw
        have HB := Lib.hid hB
        clear hRw hB
        by_cases hil : i < fs1.length
        · obtain ⟨gf, of, rfl, hgf, hat⟩ := (HF.out.rd.plus (Plus.is x3)) (by omega)
          have hci := hat i hil
          obtain ⟨f, hf⟩ : ∃ f, fs1.getD i 0 = f := ⟨_, rfl⟩
          have hft := from_lt HM.out (b := b) (by rw [← hnl.out]; exact hlt) (i := i) (by rw [HU.out]; exact hil)
          rw [HU.out] at hft
          simp only at hft
          have htk := take_int hil
          rw [hf] at hft hci htk
          have HT := Lib.hid htk
          have hadd := add_addr gf of i
          clear hf hat htk
          by_cases hf1 : f = -1
          · subst hf1
            clear hft
            go_wp2_with fail
            go_roundw
            case rel =>
              refine ⟨i + 1, int_eq (by omega), by omega, (HRl.out.plus (by repeat' (first | exact Plus.refl _ | refine Plus.alloc ?_ _ | refine Plus.plus ?_ _ | refine Plus.drew ?_ | refine Plus.drewN ?_ _))).ext (fun x y _ _ => ?_), HB.out.trans ((Plus.below (by repeat' (first | exact Plus.refl _ | refine Plus.alloc ?_ _ | refine Plus.plus ?_ _ | refine Plus.drew ?_ | refine Plus.drewN ?_ _))).mono (by simp [go_sem]))⟩
              rw [HT.out]
              have q : decide ((x : Int) ∈ fs1.take i ++ [-1]) = decide ((x : Int) ∈ fs1.take i) := by
                have q1 : ¬ ((x : Int) = -1) := by omega
                simp [q1]
              rw [q]
            case measure => simp [intOf]; omega
          · obtain ⟨h0, h1⟩ : 0 ≤ f ∧ f < b := by omega
            obtain ⟨a, rfl⟩ := Int.eq_ofNat_of_zero_le h0
            have han : a < n := by omega
            obtain ⟨g2, c2, h, hh, hb0, hc0, hg0, hcl, hfz, hrow⟩ := HRl.out.at_ han
            have HW := Lib.hid hrow
            have hbc := hb0.cell
            have hbl := hb0.lt
            have han' : (a : Int) < n := by omega
            have hkk := hk.out
            clear hrow hb0 hft hfz
            go_wp2_with (go_at_call 48; (with_reducible refine (add_c _ HW.out (by omega) (by omega) (Nat.le_refl _)).mono ?_); rintro e xw ⟨⟨v, rfl⟩, hw'⟩; rw [hw']; clear hw')
            go_roundw
            case rel =>
              refine ⟨i + 1, int_eq (by omega), by omega, ((HRl.out.plus (Plus.drew (Plus.refl _))).setBit han hh.out).ext (fun x y _ _ => ?_), (show Below w.heap.size w ((plus w x3).drew.setCell ⟨h, b / 64, none⟩ _) from Below.set (HB.out.trans (Plus.below (Plus.drew (Plus.refl _)) |>.mono (by simp [go_sem]))) (HRl.out.lowat han hh.out))⟩
              rw [HT.out]
              unfold adds
              by_cases e1 : y = b
              · subst e1
                by_cases e2 : x = a
                · subst e2; simp
                · have e3 : ¬ ((x : Int) = a) := by omega
                  have e4 : (x == a) = false := by simp [e2]
                  rw [e4]
                  simp only [List.mem_append, List.mem_singleton, e3, or_false, Bool.false_and, Bool.or_false]
              · have e5 : (y == b) = false := by simp only [beq_eq_false_iff_ne]; exact e1
                simp only [e5, Bool.and_false, Bool.or_false]
            case measure => simp [intOf]; omega
        · obtain rfl : i = fs1.length := by omega
          go_wp2_with fail
          go_roundw
          case rel =>
            refine ⟨b + 1, int_eq (by omega), by omega, (HRl.out.plus (by repeat' (first | exact Plus.refl _ | refine Plus.alloc ?_ _ | refine Plus.plus ?_ _ | refine Plus.drew ?_ | refine Plus.drewN ?_ _))).ext (fun x y _ _ => ?_), HB.out.trans ((Plus.below (by repeat' (first | exact Plus.refl _ | refine Plus.alloc ?_ _ | refine Plus.plus ?_ _ | refine Plus.drew ?_ | refine Plus.drewN ?_ _))).mono (by simp [go_sem]))⟩
            rw [List.take_length]
            by_cases e1 : y = b
            · subst e1
              have q : frmB l x y = decide ((x : Int) ∈ fs1) := by
                unfold frmB
                rw [HU.out, ← hnl.out]
                simp [hlt]
              simp [q]
            · have e2 : decide (y < b + 1) = decide (y < b) := by simp only [decide_eq_decide]; omega
              simp [e1, e2]
          case measure => simp [intOf]; omega
    · obtain rfl : b = n := by omega
      go_wp2_with fail
      go_returns
      refine ⟨_, hs, rfl, HRl.out.ext (fun x y _ _ => ?_), Plus.is x0⟩
      have q : frmB l x y = true → y < b := fun h => by
        unfold frmB at h
        rw [← hnl.out] at h
        simp at h
        exact h.2
      cases h : frmB l x y
      · rfl
      · simp [q h]
end Go.Proofs.YtmfdlcicbiincaaDoor
