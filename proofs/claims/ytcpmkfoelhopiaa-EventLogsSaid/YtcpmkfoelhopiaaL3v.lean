/- Walk of EventAsks. -/
import Derived.WalkKit
import Derived.WalkSpells
import Derived.WalkLawsBesides
import Derived.Handy
import Derived.Deep.RegionHeld3
import Derived.Deep.DeepCutAuto
import Derived.Deep.QuietTactic
import Derived.BigQuiet
import Derived.Lib.Hide
import Derived.KernelRfl
import Derived.WalkMore
import Derived.Deep.LoopGhost
import Derived.IntWalk
import Derived.Test.YtcpmkfoelhopiaaR2
namespace Go.Proofs.Ytcpmkfoelhopiaa
open Go.RowKit

/-- A box that holds these cells. -/
def Bo (w : World) (b : Nat) (l : List Value) : Prop := ∃ t z, w.heap[b]? = some (.cells l.toArray t z)
theorem Bo.plus {w w' : World} {b : Nat} {l : List Value} (h : Bo w b l) (hp : Plus w w') : Bo w' b l := by
  obtain ⟨t, z, h⟩ := h
  exact ⟨t, z, (hp.below.block b (Array.getElem?_eq_some_iff.1 h).1).trans h⟩
theorem Bo.cell {w : World} {b : Nat} {l : List Value} (h : Bo w b l) (i : Nat) : w.cell? ⟨b, i, none⟩ = l[i]? := by
  obtain ⟨t, z, h⟩ := h
  rw [cell_of_row w b i _ _ _ h]
  simp
theorem bo_new (w : World) (l : List Value) (t : TypeId) {b : Nat} (hb : b = w.heap.size) : Bo (w.alloc (.cells l.toArray t)) b l := ⟨t, (0, 0), new_at w _ hb⟩
set_option maxRecDepth 100000 in
set_option maxHeartbeats 16000000 in
theorem asks_h {g k b a z : Int} {s t : Bool} {R W F : Option Addr} {xs us fs : List Int} {cr cw cf : Nat} {g2 k2 b2 a2 z2 : Int} {s2 t2 : Bool} {R2 W2 F2 : Option Addr} {xs2 us2 fs2 : List Int} {cr2 cw2 cf2 : Nat} {r v e o : Bool} (w : World) (H1 : Hid (EM w R W F xs us fs xs.length cr us.length cw fs.length cf)) (H2 : Hid (EM w R2 W2 F2 xs2 us2 fs2 xs2.length cr2 us2.length cw2 fs2.length cf2)) (i1 : I64 a) (i2 : I64 z) (i3 : I64 a2) (i4 : I64 z2) (HR : Hid (readsM k = r)) (HW : Hid (writesM k = v)) (HO : Hid (overM k b a z k2 b2 a2 z2 = o)) (HE : Hid (equalM k b a z k2 b2 a2 z2 = e)) : Calls Try.prog 3 #[Value.agg #[.int .i64 g, .int .i64 k, .bool s, .bool t, .int .i64 b, .int .i64 a, .int .i64 z, .slice R xs.length cr, .slice W us.length cw, .slice F fs.length cf], Value.agg #[.int .i64 g2, .int .i64 k2, .bool s2, .bool t2, .int .i64 b2, .int .i64 a2, .int .i64 z2, .slice R2 xs2.length cr2, .slice W2 us2.length cw2, .slice F2 fs2.length cf2]] w fun e w' => e = .returned (.bool true) ∧ Plus w w' := by
  go_enter Try.func3, Try.ntmps3
  go_upto_region 5 with (first | (go_at_call 9; (with_reducible refine (first_c _).mono ?_); rintro e w1 ⟨rfl, ⟨y0, rfl⟩⟩) | (go_at_call 10; (with_reducible refine (few_c (rs := [⟨⟨g, k, s, t, b, a, z, xs, us, fs⟩, R, cr, W, cw, F, cf⟩, ⟨⟨g2, k2, s2, t2, b2, a2, z2, xs2, us2, fs2⟩, R2, cr2, W2, cw2, F2, cf2⟩]) _ (pair_es _ (by simp [go_sem]) (H1.out.plus (by repeat' (first | exact Plus.refl _ | refine Plus.alloc ?_ _ | refine Plus.plus ?_ _ | refine Plus.drew ?_ | refine Plus.drewN ?_ _))) (H2.out.plus (by repeat' (first | exact Plus.refl _ | refine Plus.alloc ?_ _ | refine Plus.plus ?_ _ | refine Plus.drew ?_ | refine Plus.drewN ?_ _)))) (by omega) (by omega)).mono ?_); rintro e w1 ⟨bf, rfl, _, ⟨yf, rfl⟩⟩))
  · go_returns
    exact ⟨rfl, (by repeat' (first | exact Plus.refl _ | refine Plus.alloc ?_ _ | refine Plus.plus ?_ _ | refine Plus.drew ?_ | refine Plus.drewN ?_ _))⟩
  go_cut [5, 6] (fun s5 s6 wx => ∃ b5 b6, s5 = .pointer (some ⟨b5, 0, none⟩) ∧ s6 = .pointer (some ⟨b6, 0, none⟩) ∧ Bo wx b5 [.int .i64 g, .int .i64 k, .bool s, .bool t, .int .i64 b, .int .i64 a, .int .i64 z, .slice R xs.length cr, .slice W us.length cw, .slice F fs.length cf] ∧ Bo wx b6 [.int .i64 g2, .int .i64 k2, .bool s2, .bool t2, .int .i64 b2, .int .i64 a2, .int .i64 z2, .slice R2 xs2.length cr2, .slice W2 us2.length cw2, .slice F2 fs2.length cf2] ∧ Bo wx w.heap.size [.int .i64 g, .int .i64 k, .bool s, .bool t, .int .i64 b, .int .i64 a, .int .i64 z, .slice R xs.length cr, .slice W us.length cw, .slice F fs.length cf] ∧ Bo wx (w.heap.size + 1) [.int .i64 g2, .int .i64 k2, .bool s2, .bool t2, .int .i64 b2, .int .i64 a2, .int .i64 z2, .slice R2 xs2.length cr2, .slice W2 us2.length cw2, .slice F2 fs2.length cf2] ∧ Plus w wx)
  case first =>
    go_region_held3 (fun w' => w'.cell? ⟨w.heap.size, 0, none⟩ = some (.int .i64 g) ∧ w'.cell? ⟨w.heap.size, 1, none⟩ = some (.int .i64 k) ∧ w'.cell? ⟨w.heap.size, 2, none⟩ = some (.bool s) ∧ w'.cell? ⟨w.heap.size, 3, none⟩ = some (.bool t) ∧ w'.cell? ⟨w.heap.size, 4, none⟩ = some (.int .i64 b) ∧ w'.cell? ⟨w.heap.size, 5, none⟩ = some (.int .i64 a) ∧ w'.cell? ⟨w.heap.size, 6, none⟩ = some (.int .i64 z) ∧ w'.cell? ⟨w.heap.size, 7, none⟩ = some (.slice R xs.length cr) ∧ w'.cell? ⟨w.heap.size, 8, none⟩ = some (.slice W us.length cw) ∧ w'.cell? ⟨w.heap.size, 9, none⟩ = some (.slice F fs.length cf) ∧ w'.cell? ⟨w.heap.size + 1, 0, none⟩ = some (.int .i64 g2) ∧ w'.cell? ⟨w.heap.size + 1, 1, none⟩ = some (.int .i64 k2) ∧ w'.cell? ⟨w.heap.size + 1, 2, none⟩ = some (.bool s2) ∧ w'.cell? ⟨w.heap.size + 1, 3, none⟩ = some (.bool t2) ∧ w'.cell? ⟨w.heap.size + 1, 4, none⟩ = some (.int .i64 b2) ∧ w'.cell? ⟨w.heap.size + 1, 5, none⟩ = some (.int .i64 a2) ∧ w'.cell? ⟨w.heap.size + 1, 6, none⟩ = some (.int .i64 z2) ∧ w'.cell? ⟨w.heap.size + 1, 7, none⟩ = some (.slice R2 xs2.length cr2) ∧ w'.cell? ⟨w.heap.size + 1, 8, none⟩ = some (.slice W2 us2.length cw2) ∧ w'.cell? ⟨w.heap.size + 1, 9, none⟩ = some (.slice F2 fs2.length cf2)) (refine ⟨?_, ?_, ?_, ?_, ?_, ?_, ?_, ?_, ?_, ?_, ?_, ?_, ?_, ?_, ?_, ?_, ?_, ?_, ?_, ?_⟩ <;> simp [go_sem]) (first | (go_at_call_of 11 (Value.agg #[.int .i64 g, .int .i64 k, .bool s, .bool t, .int .i64 b, .int .i64 a, .int .i64 z, .slice R xs.length cr, .slice W us.length cw, .slice F fs.length cf]); (with_reducible refine (event_c _).mono ?_); rintro e w1 ⟨rfl, ⟨x1, rfl⟩⟩) | (go_at_call_of 11 (Value.agg #[.int .i64 g2, .int .i64 k2, .bool s2, .bool t2, .int .i64 b2, .int .i64 a2, .int .i64 z2, .slice R2 xs2.length cr2, .slice W2 us2.length cw2, .slice F2 fs2.length cf2]); (with_reducible refine (event_c _).mono ?_); rintro e w1 ⟨rfl, ⟨x2, rfl⟩⟩))
    all_goals go_wp2_with fail
    all_goals go_meet
    all_goals exact ⟨_, _, rfl, rfl, (by repeat' (first | exact bo_new _ _ _ (by simp [go_sem]) | refine Bo.plus ?_ (Plus.alloc (Plus.refl _) _) | refine Bo.plus ?_ (Plus.is _))), (by repeat' (first | exact bo_new _ _ _ (by simp [go_sem]) | refine Bo.plus ?_ (Plus.alloc (Plus.refl _) _) | refine Bo.plus ?_ (Plus.is _))), (by repeat' (first | exact bo_new w _ _ rfl | refine Bo.plus ?_ (Plus.alloc (Plus.refl _) _) | refine Bo.plus ?_ (Plus.is _))), (by repeat' (first | exact bo_new (w.alloc _) _ _ (by simp) | refine Bo.plus ?_ (Plus.alloc (Plus.refl _) _) | refine Bo.plus ?_ (Plus.is _))), (by repeat' (first | exact Plus.refl _ | refine Plus.alloc ?_ _ | refine Plus.plus ?_ _ | refine Plus.drew ?_ | refine Plus.drewN ?_ _))⟩
  case rest =>
    obtain ⟨b5, b6, rfl, rfl, hb5, hb6, hb0, hb1, hpw⟩ := hcut
    have HB5 := Lib.hid hb5
    have HB6 := Lib.hid hb6
    have HB0 := Lib.hid hb0
    have HB1 := Lib.hid hb1
    have HPW := Lib.hid hpw
    clear hb5 hb6 hb0 hb1 hpw
    have ga0 : ∀ x, (plus wc x).cell? ⟨w.heap.size, 0, none⟩ = some (.int .i64 g) := fun x => (HB0.out.plus (Plus.is x)).cell 0
    have ga1 : ∀ x, (plus wc x).cell? ⟨w.heap.size, 1, none⟩ = some (.int .i64 k) := fun x => (HB0.out.plus (Plus.is x)).cell 1
    have ga2 : ∀ x, (plus wc x).cell? ⟨w.heap.size, 2, none⟩ = some (.bool s) := fun x => (HB0.out.plus (Plus.is x)).cell 2
    have ga3 : ∀ x, (plus wc x).cell? ⟨w.heap.size, 3, none⟩ = some (.bool t) := fun x => (HB0.out.plus (Plus.is x)).cell 3
    have ga4 : ∀ x, (plus wc x).cell? ⟨w.heap.size, 4, none⟩ = some (.int .i64 b) := fun x => (HB0.out.plus (Plus.is x)).cell 4
    have ga5 : ∀ x, (plus wc x).cell? ⟨w.heap.size, 5, none⟩ = some (.int .i64 a) := fun x => (HB0.out.plus (Plus.is x)).cell 5
    have ga6 : ∀ x, (plus wc x).cell? ⟨w.heap.size, 6, none⟩ = some (.int .i64 z) := fun x => (HB0.out.plus (Plus.is x)).cell 6
    have ga7 : ∀ x, (plus wc x).cell? ⟨w.heap.size, 7, none⟩ = some (.slice R xs.length cr) := fun x => (HB0.out.plus (Plus.is x)).cell 7
    have ga8 : ∀ x, (plus wc x).cell? ⟨w.heap.size, 8, none⟩ = some (.slice W us.length cw) := fun x => (HB0.out.plus (Plus.is x)).cell 8
    have ga9 : ∀ x, (plus wc x).cell? ⟨w.heap.size, 9, none⟩ = some (.slice F fs.length cf) := fun x => (HB0.out.plus (Plus.is x)).cell 9
    have gb0 : ∀ x, (plus wc x).cell? ⟨w.heap.size + 1, 0, none⟩ = some (.int .i64 g2) := fun x => (HB1.out.plus (Plus.is x)).cell 0
    have gb1 : ∀ x, (plus wc x).cell? ⟨w.heap.size + 1, 1, none⟩ = some (.int .i64 k2) := fun x => (HB1.out.plus (Plus.is x)).cell 1
    have gb2 : ∀ x, (plus wc x).cell? ⟨w.heap.size + 1, 2, none⟩ = some (.bool s2) := fun x => (HB1.out.plus (Plus.is x)).cell 2
    have gb3 : ∀ x, (plus wc x).cell? ⟨w.heap.size + 1, 3, none⟩ = some (.bool t2) := fun x => (HB1.out.plus (Plus.is x)).cell 3
    have gb4 : ∀ x, (plus wc x).cell? ⟨w.heap.size + 1, 4, none⟩ = some (.int .i64 b2) := fun x => (HB1.out.plus (Plus.is x)).cell 4
    have gb5 : ∀ x, (plus wc x).cell? ⟨w.heap.size + 1, 5, none⟩ = some (.int .i64 a2) := fun x => (HB1.out.plus (Plus.is x)).cell 5
    have gb6 : ∀ x, (plus wc x).cell? ⟨w.heap.size + 1, 6, none⟩ = some (.int .i64 z2) := fun x => (HB1.out.plus (Plus.is x)).cell 6
    have gb7 : ∀ x, (plus wc x).cell? ⟨w.heap.size + 1, 7, none⟩ = some (.slice R2 xs2.length cr2) := fun x => (HB1.out.plus (Plus.is x)).cell 7
    have gb8 : ∀ x, (plus wc x).cell? ⟨w.heap.size + 1, 8, none⟩ = some (.slice W2 us2.length cw2) := fun x => (HB1.out.plus (Plus.is x)).cell 8
    have gb9 : ∀ x, (plus wc x).cell? ⟨w.heap.size + 1, 9, none⟩ = some (.slice F2 fs2.length cf2) := fun x => (HB1.out.plus (Plus.is x)).cell 9
    have gc0 : ∀ x, (plus wc x).cell? ⟨b5, 0, none⟩ = some (.int .i64 g) := fun x => (HB5.out.plus (Plus.is x)).cell 0
    have gc1 : ∀ x, (plus wc x).cell? ⟨b5, 1, none⟩ = some (.int .i64 k) := fun x => (HB5.out.plus (Plus.is x)).cell 1
    have gc2 : ∀ x, (plus wc x).cell? ⟨b5, 2, none⟩ = some (.bool s) := fun x => (HB5.out.plus (Plus.is x)).cell 2
    have gc3 : ∀ x, (plus wc x).cell? ⟨b5, 3, none⟩ = some (.bool t) := fun x => (HB5.out.plus (Plus.is x)).cell 3
    have gc4 : ∀ x, (plus wc x).cell? ⟨b5, 4, none⟩ = some (.int .i64 b) := fun x => (HB5.out.plus (Plus.is x)).cell 4
    have gc5 : ∀ x, (plus wc x).cell? ⟨b5, 5, none⟩ = some (.int .i64 a) := fun x => (HB5.out.plus (Plus.is x)).cell 5
    have gc6 : ∀ x, (plus wc x).cell? ⟨b5, 6, none⟩ = some (.int .i64 z) := fun x => (HB5.out.plus (Plus.is x)).cell 6
    have gc7 : ∀ x, (plus wc x).cell? ⟨b5, 7, none⟩ = some (.slice R xs.length cr) := fun x => (HB5.out.plus (Plus.is x)).cell 7
    have gc8 : ∀ x, (plus wc x).cell? ⟨b5, 8, none⟩ = some (.slice W us.length cw) := fun x => (HB5.out.plus (Plus.is x)).cell 8
    have gc9 : ∀ x, (plus wc x).cell? ⟨b5, 9, none⟩ = some (.slice F fs.length cf) := fun x => (HB5.out.plus (Plus.is x)).cell 9
    have gd0 : ∀ x, (plus wc x).cell? ⟨b6, 0, none⟩ = some (.int .i64 g2) := fun x => (HB6.out.plus (Plus.is x)).cell 0
    have gd1 : ∀ x, (plus wc x).cell? ⟨b6, 1, none⟩ = some (.int .i64 k2) := fun x => (HB6.out.plus (Plus.is x)).cell 1
    have gd2 : ∀ x, (plus wc x).cell? ⟨b6, 2, none⟩ = some (.bool s2) := fun x => (HB6.out.plus (Plus.is x)).cell 2
    have gd3 : ∀ x, (plus wc x).cell? ⟨b6, 3, none⟩ = some (.bool t2) := fun x => (HB6.out.plus (Plus.is x)).cell 3
    have gd4 : ∀ x, (plus wc x).cell? ⟨b6, 4, none⟩ = some (.int .i64 b2) := fun x => (HB6.out.plus (Plus.is x)).cell 4
    have gd5 : ∀ x, (plus wc x).cell? ⟨b6, 5, none⟩ = some (.int .i64 a2) := fun x => (HB6.out.plus (Plus.is x)).cell 5
    have gd6 : ∀ x, (plus wc x).cell? ⟨b6, 6, none⟩ = some (.int .i64 z2) := fun x => (HB6.out.plus (Plus.is x)).cell 6
    have gd7 : ∀ x, (plus wc x).cell? ⟨b6, 7, none⟩ = some (.slice R2 xs2.length cr2) := fun x => (HB6.out.plus (Plus.is x)).cell 7
    have gd8 : ∀ x, (plus wc x).cell? ⟨b6, 8, none⟩ = some (.slice W2 us2.length cw2) := fun x => (HB6.out.plus (Plus.is x)).cell 8
    have gd9 : ∀ x, (plus wc x).cell? ⟨b6, 9, none⟩ = some (.slice F2 fs2.length cf2) := fun x => (HB6.out.plus (Plus.is x)).cell 9
    go_wp2_with fail
    refine wp_region_plus (by kernel_rfl) (by kernel_rfl) ?_
    repeat (go_big_quiet_step ((first | (go_at_call 9; exact calls_plus (first_c _)) | (go_at_call 12; exact calls_plus (reads_n HR _)) | (go_at_call 13; exact calls_plus (rreads_n HR _)) | (go_at_call 14; exact calls_plus (writes_n HW _)) | (go_at_call 15; exact calls_plus (rwrites_n HW _)) | (go_at_call 16; exact calls_plus (equal_n HE _)) | (go_at_call 17; exact calls_plus (requal_n HE _)) | (go_at_call 18; exact calls_plus (over_n HO _ i1 i2 i3 i4)) | (go_at_call 19; exact calls_plus (rover_n HO _ i1 i2 i3 i4)))))
    refine wpQuiet_nil ?_
    intro _ hw'
    obtain ⟨yy, rfl⟩ := hw'
    go_wp2_with fail
    go_returns
    exact ⟨ret_bool (by simp), HPW.out.trans (Plus.is _)⟩
end Go.Proofs.Ytcpmkfoelhopiaa
