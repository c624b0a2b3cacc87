/- EventMore: more, and the plain facts. -/
import Derived.WalkKit
import Derived.WalkSpells
import Derived.WalkLawsBesides
import Derived.Handy
import Derived.Deep.RegionHeld3
import Derived.Deep.DeepCutAuto
import Derived.Deep.QuietTactic
import Derived.BigQuiet
import Derived.Lib.Hide
import Derived.KernelRfl
import Derived.WalkMore
import Derived.Deep.LoopGhost
import Derived.IntWalk
import Derived.Test.YtcpmkfoelhopiaaL5v
namespace Go.Proofs.Ytcpmkfoelhopiaa
open Go.RowKit

theorem es_of_own2 {w : World} {B c n : Nat} {V : Option Addr} {ys : List ER} (hn : ys.length = n) (h : w.ownsRow B 25 10 (.slice V n c) n (rowE ys)) (hm : ∀ y ∈ ys, ERM w y) : Es w V ys n c := by
  subst hn
  exact es_of_own h hm
/-- What more returns: the log with an event behind it. -/
def RetMo (l : List Ev) (ps : List Pr) (n m : Nat) (w : World) (e : Ending) (w' : World) : Prop := ∃ (V : Option Addr) (c : Nat) (V2 : Option Addr) (c2 : Nat), e = .returned (.agg #[.slice V n c, .slice V2 m c2]) ∧ Lg w' l ps V n c V2 m c2 ∧ Plus w w'
/-- Head, its rows told as the call's own. -/
def RetHo (l : List Ev) (qs : List Pr) (n m : Nat) (w : World) (e : Ending) (w' : World) : Prop := ∃ (V : Option Addr) (c : Nat) (ys : List ER) (V2 : Option Addr) (c2 : Nat), e = .returned (.agg #[.slice V n c, .slice V2 m c2]) ∧ w'.ownsRow w.heap.size 25 10 (.slice V n c) n (rowE ys) ∧ (∀ y ∈ ys, OwnE w.heap.size w' y) ∧ w'.ownsRow w.heap.size 56 2 (.slice V2 m c2) m (rowP qs) ∧ ys.map (·.e) = l ∧ ys.length = n ∧ qs.length = m ∧ Plus w w'
theorem head_o {l : List Ev} {ps : List Pr} {A B : Option Addr} {n c m d : Nat} (w : World) (H : Lg w l ps A n c B m d) (HS : Hid (SmL l)) (H4 : Hid (l.take (hdN (n : Int) l.length) = l ∧ ps.filter (amB (hdN (n : Int) l.length)) = ps ∧ n = l.length ∧ m = ps.length)) (hl : n ≤ 100000) (hl2 : m ≤ 100000) : Calls Try.prog 21 #[.agg #[.slice A n c, .slice B m d], .int .i64 n] w (RetHo l ps n m w) := by
  obtain ⟨h1, h2, h3, h4⟩ := H4.out
  obtain ⟨rs, rfl, he⟩ := H.ev
  refine (head_n w he H.pa (sml_mem HS.out) hl hl2).mono ?_
  rintro e w' ⟨V, c1, ys, V2, c2, rfl, ho, hy, hq, hm, hp⟩
  rw [← h3] at h1 h2
  rw [h1] at hm
  rw [h2] at hq ⊢
  have e2 : ys.length = n := by rw [h3, ← hm, List.length_map]
  rw [e2] at ho ⊢
  rw [← h4] at hq ⊢
  exact ⟨V, c1, ys, V2, c2, rfl, ho, hy, hq, hm, e2, h4.symm, hp⟩
set_option maxRecDepth 100000 in
set_option maxHeartbeats 4000000 in
theorem more_c {g k b a z : Int} {s t : Bool} {R W F : Option Addr} {xs us fs : List Int} {cr cw cf : Nat} {l : List Ev} {ps : List Pr} {A B : Option Addr} {n c m d : Nat} (w : World) (H : Hid (Lg w l ps A n c B m d)) (HSM : Hid (SmL l)) (H4 : Hid (l.take (hdN (n : Int) l.length) = l ∧ ps.filter (amB (hdN (n : Int) l.length)) = ps ∧ n = l.length ∧ m = ps.length)) (hl : n ≤ 1000) (hl2 : m ≤ 1000) (HE : Hid (EM w R W F xs us fs xs.length cr us.length cw fs.length cf)) : Calls Try.prog 27 #[.agg #[.slice A n c, .slice B m d], Value.agg #[.int .i64 g, .int .i64 k, .bool s, .bool t, .int .i64 b, .int .i64 a, .int .i64 z, .slice R xs.length cr, .slice W us.length cw, .slice F fs.length cf]] w (RetMo (l ++ [⟨g, k, s, t, b, a, z, xs, us, fs⟩]) ps (n + 1) m w) := by
  obtain ⟨i0, hi, hz0, hz1, hz2⟩ := info_parts infoEv
  go_enter Try.func27, Try.ntmps27
  go_wp2_with (first | (go_at_call 21; (with_reducible refine (head_o _ (H.out.plus (by repeat' (first | exact Plus.refl _ | refine Plus.alloc ?_ _ | refine Plus.plus ?_ _ | refine Plus.drew ?_ | refine Plus.drewN ?_ _))) HSM H4 (by omega) (by omega)).mono ?_); rintro e xw ⟨V, c1, ys, V2, c2, rfl, ho, hy, hq, hm, hyn, hqm, ⟨xh, rfl⟩⟩; have HO := Lib.hid ho; have HY := Lib.hid hy; have HQ := Lib.hid hq; have HM := Lib.hid hm; have HYN := Lib.hid hyn; have HQM := Lib.hid hqm; clear ho hy hq hm hyn hqm) | (at_builtin; refine wpList_append_own _ rfl _ _ 28 rfl _ 25 i0 (.agg #[.int .i64 0, .int .i64 0, .bool false, .bool false, .int .i64 0, .int .i64 0, .int .i64 0, .slice none 0 0, .slice none 0 0, .slice none 0 0]) 10 120 Try.underlying28 hi hz0 hz1 hz2 rfl (by decide) _ _ _ rfl (own_plus HO.out (by repeat' (first | exact Plus.refl _ | refine Plus.alloc ?_ _ | refine Plus.plus ?_ _ | refine Plus.drew ?_ | refine Plus.drewN ?_ _))) _ 1 1 (evL ⟨⟨g, k, s, t, b, a, z, xs, us, fs⟩, R, cr, W, cw, F, cf⟩) rfl rfl (news_at' _ _ _ _ (by simp [go_sem])) (one_ev _) (by unfold maxLen; omega) (by omega) (by simp [go_sem]; omega) ?_; intro v1 w1 hown1 hgr1 _; obtain ⟨V1, cv1, rfl⟩ := own_form hown1; have HW2 := Lib.hid hown1; have HG2 := Lib.hid hgr1; clear hown1 hgr1; have hB4 := Bx.grown ((bx_new' _ _ _ (b := w.heap.size + 1 + 1 + 1 + xh.blocks.length) (by simp [go_sem])).plus (Plus.alloc (Plus.refl _) _)) HG2.out (own_ty (own_plus HO.out (by repeat' (first | exact Plus.refl _ | refine Plus.alloc ?_ _ | refine Plus.plus ?_ _ | refine Plus.drew ?_ | refine Plus.drewN ?_ _)))) (by decide); have hB5 := Bx.grown ((((bx_new' _ _ _ (b := w.heap.size + 1 + 1) (by simp [go_sem])).plus (Plus.is _)).plus (Plus.alloc (Plus.refl _) _)).plus (Plus.alloc (Plus.refl _) _)) HG2.out (own_ty (own_plus HO.out (by repeat' (first | exact Plus.refl _ | refine Plus.alloc ?_ _ | refine Plus.plus ?_ _ | refine Plus.drew ?_ | refine Plus.drewN ?_ _)))) (by decide); have hc4 : w1.cell? ⟨w.heap.size + 1 + 1 + 1 + xh.blocks.length, 0, none⟩ = _ := hB4.c0; have hc5 : w1.cell? ⟨w.heap.size + 1 + 1 + 1 + xh.blocks.length, 1, none⟩ = _ := hB4.c1; have hf4 : w1.frozen? ⟨w.heap.size + 1 + 1 + 1 + xh.blocks.length, 0, none⟩ = false := hB4.frozen 0; have HB4 := Lib.hid hB4; have hB6 := Bx.other hB5 (b2 := w.heap.size + 1 + 1 + 1 + xh.blocks.length) (i := 0) (by omega) (.slice V1 (n + 1) cv1); have hy0 := hB6.c0; have hy1 := hB6.c1; have hf5 := hB6.frozen 0; have hf6 := hB6.frozen 1; have hr := (hB6.set0 (.slice V1 (n + 1) cv1)).set1 (.slice V2 m c2); have hr0 := hr.c0; have hr1 := hr.c1; have HB5 := Lib.hid hB5; have HB6 := Lib.hid hB6; clear hB4 hB5 hB6 hr))
  have hP : Plus w (((w1.setCell ⟨w.heap.size + 1 + 1 + 1 + xh.blocks.length, 0, none⟩ (.slice V1 (n + 1) cv1)).setCell ⟨w.heap.size + 1 + 1, 0, none⟩ (.slice V1 (n + 1) cv1)).setCell ⟨w.heap.size + 1 + 1, 1, none⟩ (.slice V2 m c2)) :=
    Plus.of_below ((((((Plus.below (w' := _) (by repeat' (first | exact Plus.refl _ | refine Plus.alloc ?_ _ | refine Plus.plus ?_ _ | refine Plus.drew ?_ | refine Plus.drewN ?_ _))).grown HG2.out (by simp [go_sem]; omega) (fun j hj => Nat.le_trans (by simp [go_sem]; omega) (own_ge HO.out j hj))).setCell (by show w.heap.size ≤ w.heap.size + 1 + 1 + 1 + xh.blocks.length; omega) _).setCell (by show w.heap.size ≤ w.heap.size + 1 + 1; omega) _)).setCell (by show w.heap.size ≤ w.heap.size + 1 + 1; omega) _)
  have hev : Es (((w1.setCell ⟨w.heap.size + 1 + 1 + 1 + xh.blocks.length, 0, none⟩ (.slice V1 (n + 1) cv1)).setCell ⟨w.heap.size + 1 + 1, 0, none⟩ (.slice V1 (n + 1) cv1)).setCell ⟨w.heap.size + 1 + 1, 1, none⟩ (.slice V2 m c2)) V1 (ys ++ ([⟨⟨g, k, s, t, b, a, z, xs, us, fs⟩, R, cr, W, cw, F, cf⟩] : List ER)) (n + 1) cv1 := by
    have hlen : (ys ++ ([⟨⟨g, k, s, t, b, a, z, xs, us, fs⟩, R, cr, W, cw, F, cf⟩] : List ER)).length = n + 1 := by rw [List.length_append, HYN.out]; rfl
    have q : World.ownsRow (((w1.setCell ⟨w.heap.size + 1 + 1 + 1 + xh.blocks.length, 0, none⟩ (.slice V1 (n + 1) cv1)).setCell ⟨w.heap.size + 1 + 1, 0, none⟩ (.slice V1 (n + 1) cv1)).setCell ⟨w.heap.size + 1 + 1, 1, none⟩ (.slice V2 m c2)) 0 25 10 (.slice V1 (n + 1) cv1) (n + 1) (rowE ys ++ evL ⟨⟨g, k, s, t, b, a, z, xs, us, fs⟩, R, cr, W, cw, F, cf⟩) := own_base (own_set (own_set (own_set HW2.out HB4.out (by decide)) HB6.out (by decide)) (HB6.out.set0 _) (by decide)) (Nat.zero_le _)
    rw [← rowE_snoc] at q
    refine es_of_own2 hlen q fun y hy => ?_
    rcases List.mem_append.1 hy with h | h
    · exact (OwnE.set (OwnE.set (OwnE.set (OwnE.grown ((HY.out y h).plus (by repeat' (first | exact Plus.refl _ | refine Plus.alloc ?_ _ | refine Plus.plus ?_ _ | refine Plus.drew ?_ | refine Plus.drewN ?_ _))) HG2.out (own_ty (own_plus HO.out (by repeat' (first | exact Plus.refl _ | refine Plus.alloc ?_ _ | refine Plus.plus ?_ _ | refine Plus.drew ?_ | refine Plus.drewN ?_ _)))) (by decide) (by decide)) HB4.out (by decide) (by decide)) HB6.out (by decide) (by decide)) (HB6.out.set0 _) (by decide) (by decide)).erm
    · obtain rfl := List.mem_singleton.1 h
      exact EM.plus HE.out hP
  have hpa : Pa (((w1.setCell ⟨w.heap.size + 1 + 1 + 1 + xh.blocks.length, 0, none⟩ (.slice V1 (n + 1) cv1)).setCell ⟨w.heap.size + 1 + 1, 0, none⟩ (.slice V1 (n + 1) cv1)).setCell ⟨w.heap.size + 1 + 1, 1, none⟩ (.slice V2 m c2)) V2 ps m c2 := by
    have q := own_set (own_set (own_set (own_grown (own_plus HQ.out (by repeat' (first | exact Plus.refl _ | refine Plus.alloc ?_ _ | refine Plus.plus ?_ _ | refine Plus.drew ?_ | refine Plus.drewN ?_ _))) HG2.out (own_ty (own_plus HO.out (by repeat' (first | exact Plus.refl _ | refine Plus.alloc ?_ _ | refine Plus.plus ?_ _ | refine Plus.drew ?_ | refine Plus.drewN ?_ _)))) (by decide)) HB4.out (i := 0) (u := .slice V1 (n + 1) cv1) (by decide)) HB6.out (i := 0) (u := .slice V1 (n + 1) cv1) (by decide)) (HB6.out.set0 (.slice V1 (n + 1) cv1)) (i := 1) (u := .slice V2 m c2) (by decide)
    have hqm := HQM.out
    subst hqm
    exact pa_of_own q
  exact bodyPost_ret (v := .agg #[.slice V1 (n + 1) cv1, .slice V2 m c2]) (by simp [results, Try.results27, go_sem, hr0, hr1]) rfl ⟨V1, cv1, V2, c2, rfl, ⟨⟨_, by rw [List.map_append, HM.out]; rfl, hev⟩, hpa⟩, hP⟩
end Go.Proofs.Ytcpmkfoelhopiaa
