/- A log for the document. -/
import Derived.WalkKit
import Derived.WalkSpells
import Derived.WalkLawsBesides
import Derived.Handy
import Derived.Deep.RegionHeld3
import Derived.Deep.DeepCutAuto
import Derived.Deep.QuietTactic
import Derived.BigQuiet
import Derived.Lib.Hide
import Derived.KernelRfl
import Derived.WalkMore
import Derived.Deep.LoopGhost
import Derived.IntWalk
import Derived.Deep.RegionLaw
import Derived.Test.YtmfdlcicbiincaaDoorR2
import Derived.Test.YtmfdlcicbiincaaDoorE17
namespace Go.Proofs.YtmfdlcicbiincaaDoor
open Go.RowKit

/-- A log's box of either type. -/
def Bt (t : TypeId) (w : World) (b : Nat) (u v : Value) : Prop := w.heap[b]? = some (.cells #[u, v] t (0, 0))
section
variable {t : TypeId} {w w' : World} {b : Nat} {u v : Value}
theorem Bt.lt (h : Bt t w b u v) : b < w.heap.size := (Array.getElem?_eq_some_iff.1 h).1
theorem Bt.c0 (h : Bt t w b u v) : w.cell? ⟨b, 0, none⟩ = some u := by rw [cell_of_row w b 0 _ _ _ h]; rfl
theorem Bt.c1 (h : Bt t w b u v) : w.cell? ⟨b, 1, none⟩ = some v := by rw [cell_of_row w b 1 _ _ _ h]; rfl
theorem Bt.frozen (h : Bt t w b u v) (j : Nat) : w.frozen? ⟨b, j, none⟩ = false := by
  unfold Bt at h
  simp [World.frozen?, h]
theorem Bt.plus (h : Bt t w b u v) (hp : Plus w w') : Bt t w' b u v := (hp.below.block b h.lt).trans h
theorem Bt.grown {e2 : TypeId} {row : Option Nat} (h : Bt t w b u v) (hg : w.grownBy w' row) (hr : ∀ g, row = some g → ∃ cur z, w.heap[g]? = some (.cells cur e2 z)) (hne : t ≠ e2) : Bt t w' b u v := by
  refine (hg.block _ h.lt (fun e3 => ?_)).trans h
  obtain ⟨cur2, z2, hh2⟩ := hr _ e3.symm
  unfold Bt at h
  rw [h] at hh2
  injection hh2 with hh2
  injection hh2 with _ hh2 _
  exact hne hh2
theorem Bt.set0 (h : Bt t w b u v) (x : Value) : Bt t (w.setCell ⟨b, 0, none⟩ x) b x v := by
  unfold Bt at h ⊢
  simp [World.setCell, Array.getElem?_modify, h]
theorem Bt.set1 (h : Bt t w b u v) (x : Value) : Bt t (w.setCell ⟨b, 1, none⟩ x) b u x := by
  unfold Bt at h ⊢
  simp [World.setCell, Array.getElem?_modify, h]
theorem Bt.other (h : Bt t w b u v) {b2 i : Nat} (hne : b2 ≠ b) (x : Value) : Bt t (w.setCell ⟨b2, i, none⟩ x) b u v := by
  unfold Bt at h ⊢
  simp only [World.setCell, Array.getElem?_modify, if_neg hne]
  exact h
theorem bt_new (w : World) (u v : Value) (t : TypeId) {b : Nat} (hb : b = w.heap.size) : Bt t (w.alloc (.cells #[u, v] t)) b u v := by
  subst hb
  exact heap_alloc_new w _
end
theorem infoRv : (Tryd.prog.info? 65).map (fun i => (i.zero, i.size, i.bytes)) = some (some (.agg #[.int .i64 0, .int .i64 0, .bool false, .bool false, .int .i64 0, .int .i64 0, .int .i64 0, .slice none 0 0, .slice none 0 0, .slice none 0 0]), 10, 120) := by kernel_rfl
theorem es_of_own32 {w : World} {B c n : Nat} {V : Option Addr} {ys : List ER} (hn : ys.length = n) (h : w.ownsRow B 65 10 (.slice V n c) n (rowE ys)) (hm : ∀ y ∈ ys, ERM w y) : Es w V ys n c := by
  subst hn
  rcases h.2 with ⟨e, h0⟩ | ⟨g, cap, cur, e, hb, hg, hl, hmx, hs, ht⟩
  · have e0 : ys = [] := List.eq_nil_of_length_eq_zero h0
    injection e with e1 e2 e3
    subst e3
    subst e0
    exact ⟨fun h => absurd h (by simp), rfl, Nat.le_refl _, by omega, hm⟩
  · injection e with e1 e2 e3
    subst e1 e3
    refine ⟨fun h0 => ⟨g, 0, rfl, (Array.getElem?_eq_some_iff.1 hg).1, fun i j v hi hv => ?_⟩, rfl, hl, by unfold maxLen at hmx; exact hmx, hm⟩
    have hj : j < 10 := (List.getElem?_eq_some_iff.1 hv).1
    rw [Nat.zero_add, cell_of_row w g (i * 10 + j) cur 65 (0, 0) hg]
    rw [← row_get hi hj, ← ht, List.getElem?_take, if_pos (by omega)] at hv
    rw [← hv]
    simp
theorem take_snocE {l : List ER} {k : Nat} {x : ER} (h : l.getD k default = x) (hk : k < l.length) : l.take (k + 1) = l.take k ++ [x] := by
  rw [List.take_succ_eq_append_getElem hk]
  rw [List.getD_eq_getElem?_getD, List.getElem?_eq_getElem hk] at h
  simp only [Option.getD_some] at h
  rw [h]
def LgRel (w : World) (rs : List ER) (X Y : Value) (s4 : Value) (wr : World) : Prop := ∃ (k : Nat) (v : Value), s4 = .int .i64 k ∧ k ≤ rs.length ∧ Bt 25 wr w.heap.size X Y ∧ Bt 30 wr (w.heap.size + 1) (.slice none 0 0) (.slice none 0 0) ∧ Bt 30 wr (w.heap.size + 2) v (.slice none 0 0) ∧ wr.ownsRow (w.heap.size + 3) 65 10 v k (rowE (rs.take k)) ∧ Below w.heap.size w wr
/-- What Log returns: the same events, the same pairs. -/
def RetLg (l : List Ev) (ps : List Pr) (n : Nat) (B : Option Addr) (m d : Nat) (w : World) (e : Ending) (w' : World) : Prop := ∃ (V : Option Addr) (c : Nat), e = .returned (.agg #[.slice V n c, .slice B m d]) ∧ Lg w' l ps V n c B m d ∧ Plus w w'
set_option maxRecDepth 100000 in
set_option maxHeartbeats 16000000 in
theorem log_x {A B : Option Addr} {rs : List ER} {ps : List Pr} {c m d : Nat} (w : World) (he : Es w A rs rs.length c) (hp : Pa w B ps m d) (hl : rs.length ≤ 100000) : Calls Tryd.prog 12 #[.agg #[.slice A rs.length c, .slice B m d]] w (RetLg (rs.map (·.e)) ps rs.length B m d w) := by
  have hcap := he.cap
  have hmax := he.max
  have H := Lib.hid he
  have HP := Lib.hid hp
  obtain ⟨i0, hi, hz0, hz1, hz2⟩ := info_parts infoRv
  clear he hp
  go_enter Tryd.func12, Tryd.ntmps12
  go_wp2_with fail
  go_loopw [4] (fun s4 wr => LgRel w rs (.slice A rs.length c) (.slice B m d) s4 wr) (fun s4 _ => ((rs.length : Int) - intOf s4).toNat)
  case atStart => exact ⟨0, .slice none 0 0, rfl, Nat.zero_le _, ((bt_new _ _ _ _ rfl).plus (Plus.alloc (Plus.refl _) _)).plus (Plus.alloc (Plus.refl _) _), (bt_new _ _ _ _ (by simp)).plus (Plus.alloc (Plus.refl _) _), bt_new _ _ _ _ (by simp), World.ownsRow_nil _ _ _ _, (((Below.refl _ _).alloc (Nat.le_refl _) _).alloc (by simp) _).alloc (by simp; omega) _⟩
  case round =>
    obtain ⟨k, v, rfl, hk, hB1, hB2, hB3, hO, hB⟩ := hrel
    obtain ⟨x0, rfl⟩ := Plus.of_below hB
    have h1 := hB1.c0
    have h4 := hB1.c1
    have h2 := hB3.c0
    have h3 := hB3.c1
    haveI : Old (w.heap.size + 2) (plus w x0) := ⟨hB3.lt⟩
    haveI : Old (w.heap.size + 1) (plus w x0) := ⟨hB2.lt⟩
    haveI : Old w.heap.size (plus w x0) := ⟨hB1.lt⟩
    have hfz := hB3.frozen 0
    have hsz : w.heap.size + 3 ≤ w.heap.size + x0.blocks.length := by have q := hB3.lt; rw [size_plus] at q; omega
    have HB1 := Lib.hid hB1
    have HB2 := Lib.hid hB2
    have HB3 := Lib.hid hB3
    have HO := Lib.hid hO
    have HB := Lib.hid hB
    clear hB1 hB2 hB3 hO hB
    by_cases hlt : k < rs.length
    · obtain ⟨g, o, x, rfl, hx, hxm, hM, q0, q1, q2, q3, q4, q5, q6, q7, q8, q9⟩ := (H.out.plus (Plus.is x0)).at_ hlt
      have HT := Lib.hid (take_snocE hx hlt)
      obtain ⟨⟨g1, k1, s1, t1, b1, a1, z1, xs1, us1, fs1⟩, R1, cr1, W1, cw1, F1, cf1⟩ := x
      simp only at q0 q1 q2 q3 q4 q5 q6 q7 q8 q9
      have hadd := add_addr g o (k * 10)
      clear hM hxm hx
      go_wp2_with fail
      go_region_law (first | (rw [if_pos (by simp [Region.wanted])]; unfold Oper.wp; go_simp; (with_reducible refine (event_c _).mono ?_); rintro e xw ⟨rfl, ⟨x1, rfl⟩⟩; dsimp only) | (refine step_append_own rfl (.tmp 13) (.tmp 20) 28 rfl (w.heap.size + 3) 65 i0 (.agg #[.int .i64 0, .int .i64 0, .bool false, .bool false, .int .i64 0, .int .i64 0, .int .i64 0, .slice none 0 0, .slice none 0 0, .slice none 0 0]) 10 120 Tryd.underlying28 hi hz0 hz1 hz2 rfl (by decide) v k (rowE (rs.take k)) (by simp [Act.eval]) (own_plus HO.out (by repeat' (first | exact Plus.refl _ | refine Plus.alloc ?_ _ | refine Plus.plus ?_ _ | refine Plus.drew ?_ | refine Plus.drewN ?_ _))) _ 1 1 (evL ⟨⟨g1, k1, s1, t1, b1, a1, z1, xs1, us1, fs1⟩, R1, cr1, W1, cw1, F1, cf1⟩) (by simp [Act.eval]; rfl) rfl (news_at' _ _ _ _ (by simp [go_sem])) (one_ev _) (by unfold maxLen; omega) (by omega) (by simp [go_sem]; omega) ?_; intro v1 w1 hown1 hgr1; obtain ⟨V1, cv1, rfl⟩ := own_form hown1; have HW2 := Lib.hid hown1; have HG2 := Lib.hid hgr1; clear hown1 hgr1; have hB4 := Bt.grown (HB3.out.plus (by repeat' (first | exact Plus.refl _ | refine Plus.alloc ?_ _ | refine Plus.plus ?_ _ | refine Plus.drew ?_ | refine Plus.drewN ?_ _))) HG2.out (own_ty (own_plus HO.out (by repeat' (first | exact Plus.refl _ | refine Plus.alloc ?_ _ | refine Plus.plus ?_ _ | refine Plus.drew ?_ | refine Plus.drewN ?_ _)))) (by decide); have hc4 : w1.cell? ⟨w.heap.size + 1 + 1, 0, none⟩ = some v := hB4.c0; have hf4 : w1.frozen? ⟨w.heap.size + 1 + 1, 0, none⟩ = false := hB4.frozen 0; have HB4 := Lib.hid hB4; clear hB4))
      all_goals
        go_wp2_with fail
        go_roundw
        case rel => exact ⟨k + 1, _, int_eq (by omega), hlt, (Bt.grown (HB1.out.plus (by repeat' (first | exact Plus.refl _ | refine Plus.alloc ?_ _ | refine Plus.plus ?_ _ | refine Plus.drew ?_ | refine Plus.drewN ?_ _))) HG2.out (own_ty (own_plus HO.out (by repeat' (first | exact Plus.refl _ | refine Plus.alloc ?_ _ | refine Plus.plus ?_ _ | refine Plus.drew ?_ | refine Plus.drewN ?_ _)))) (by decide)).other (by omega) _, (Bt.grown (HB2.out.plus (by repeat' (first | exact Plus.refl _ | refine Plus.alloc ?_ _ | refine Plus.plus ?_ _ | refine Plus.drew ?_ | refine Plus.drewN ?_ _))) HG2.out (own_ty (own_plus HO.out (by repeat' (first | exact Plus.refl _ | refine Plus.alloc ?_ _ | refine Plus.plus ?_ _ | refine Plus.drew ?_ | refine Plus.drewN ?_ _)))) (by decide)).other (by omega) _, HB4.out.set0 _, by rw [HT.out, rowE_snoc]; exact own_set HW2.out HB4.out (by decide), ((Plus.below (w' := _) (by repeat' (first | exact Plus.refl _ | refine Plus.alloc ?_ _ | refine Plus.plus ?_ _ | refine Plus.drew ?_ | refine Plus.drewN ?_ _))).grown HG2.out (by simp [go_sem]; omega) (fun j hj => Nat.le_trans (by omega) (own_ge HO.out j hj))).setCell (by show w.heap.size ≤ w.heap.size + 1 + 1; omega) _⟩
        case measure => simp [intOf]; omega
    · obtain rfl : k = rs.length := by omega
      obtain ⟨V, cv, rfl⟩ := own_form HO.out
      have hf1 : (plus w x0).frozen? ⟨w.heap.size + 1 + 1, 1, none⟩ = false := HB3.out.frozen 1
      have h5 : (plus w x0).cell? ⟨w.heap.size + 1 + 1, 1, none⟩ = some (.slice none 0 0) := HB3.out.c1
      have hX := HB3.out.set1 (.slice B m d)
      have hX0 : ((plus w x0).setCell ⟨w.heap.size + 1 + 1, 1, none⟩ (.slice B m d)).cell? ⟨w.heap.size + 1 + 1, 0, none⟩ = some (.slice V rs.length cv) := hX.c0
      have hX1 : ((plus w x0).setCell ⟨w.heap.size + 1 + 1, 1, none⟩ (.slice B m d)).cell? ⟨w.heap.size + 1 + 1, 1, none⟩ = some (.slice B m d) := hX.c1
      have hY := HB2.out.other (b2 := w.heap.size + 1 + 1) (i := 1) (by omega) (.slice B m d)
      have hY0 := hY.c0
      have hY1 := hY.c1
      have hg0 := hY.frozen 0
      have hg1 := hY.frozen 1
      have hr := (hY.set0 (.slice V rs.length cv)).set1 (.slice B m d)
      have hr0 := hr.c0
      have hr1 := hr.c1
      have HY := Lib.hid hY
      clear hX hY hr
      go_wp2_with fail
      have hP : Plus w ((((plus w x0).setCell ⟨w.heap.size + 1 + 1, 1, none⟩ (.slice B m d)).setCell ⟨w.heap.size + 1, 0, none⟩ (.slice V rs.length cv)).setCell ⟨w.heap.size + 1, 1, none⟩ (.slice B m d)) := Plus.of_below (((HB.out.setCell (by show w.heap.size ≤ w.heap.size + 1 + 1; omega) _).setCell (by show w.heap.size ≤ w.heap.size + 1; omega) _).setCell (by show w.heap.size ≤ w.heap.size + 1; omega) _)
      have ho := HO.out
      rw [List.take_length] at ho
      have q : World.ownsRow ((((plus w x0).setCell ⟨w.heap.size + 1 + 1, 1, none⟩ (.slice B m d)).setCell ⟨w.heap.size + 1, 0, none⟩ (.slice V rs.length cv)).setCell ⟨w.heap.size + 1, 1, none⟩ (.slice B m d)) 0 65 10 (.slice V rs.length cv) rs.length (rowE rs) := own_base (own_set (own_set (own_set ho HB3.out (by decide)) HY.out (by decide)) (HY.out.set0 _) (by decide)) (Nat.zero_le _)
      exact bodyPost_ret (v := .agg #[.slice V rs.length cv, .slice B m d]) (by simp [results, Tryd.results12, go_sem, hr0, hr1]) rfl ⟨V, cv, rfl, ⟨⟨rs, rfl, es_of_own32 rfl q fun y hy => (H.out.mem y hy).plus hP⟩, HP.out.plus hP⟩, hP⟩
theorem log_s {l : List Ev} {ps : List Pr} {A B : Option Addr} {n c m d : Nat} (w : World) (H : Lg w l ps A n c B m d) (hl : n ≤ 100000) : Calls Tryd.prog 12 #[.agg #[.slice A n c, .slice B m d]] w (RetLg l ps n B m d w) := by
  obtain ⟨rs, rfl, he⟩ := H.ev
  obtain rfl := he.len
  exact log_x w he H.pa hl
end Go.Proofs.YtmfdlcicbiincaaDoor
