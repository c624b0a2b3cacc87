/- Walk of EventHeads. -/
import Derived.WalkKit
import Derived.WalkSpells
import Derived.WalkLawsBesides
import Derived.Handy
import Derived.Deep.RegionHeld3
import Derived.Deep.DeepCutAuto
import Derived.Deep.QuietTactic
import Derived.BigQuiet
import Derived.Lib.Hide
import Derived.KernelRfl
import Derived.WalkMore
import Derived.Deep.LoopGhost
import Derived.IntWalk
import Derived.Test.YtcpmkfoelhopiaaE17
namespace Go.Proofs.Ytcpmkfoelhopiaa
open Go.RowKit

def FewP (b : Bool) (l : List Ev) (n m : Nat) : Prop := b = true → (n : Int) ≤ 300 ∧ (m : Int) ≤ 300 ∧ SmL l
def RetFp (l : List Ev) (n m : Nat) (w : World) (e : Ending) (w' : World) : Prop := ∃ b : Bool, e = .returned (.bool b) ∧ FewP b l n m ∧ Plus w w'
theorem few_t {l : List Ev} {ps : List Pr} {A B : Option Addr} {n c m d : Nat} (w : World) (h : Lg w l ps A n c B m d) : Calls Try.prog 10 #[.agg #[.slice A n c, .slice B m d], .int .i64 300] w (RetFp l n m w) := few_s w h (by omega) (by omega)
set_option maxRecDepth 100000 in
set_option maxHeartbeats 16000000 in
theorem heads_ty {l l1 l2 : List Ev} {ps q1 q2 : List Pr} {A B : Option Addr} {n c m d n1 m1 n2 m2 : Nat} {z y : Int} (w : World) (H : Hid (Lg w l ps A n c B m d)) (H1 : Hid (l.take (hdN z l.length) = l1 ∧ ps.filter (amB (hdN z l.length)) = q1 ∧ n1 = l1.length ∧ m1 = q1.length)) (H2 : Hid (l1.take (hdN y l1.length) = l2 ∧ q1.filter (amB (hdN y l1.length)) = q2 ∧ n2 = l2.length ∧ m2 = q2.length)) (H5 : Hid (l.take (hdN y l.length) = l2 ∧ ps.filter (amB (hdN y l.length)) = q2 ∧ n2 = l2.length ∧ m2 = q2.length)) (hn1 : n1 ≤ n) (hm1 : m1 ≤ m) (hmx : Hid ((n1 : Int) ≤ z ∨ n1 = 0)) (hzy : y < z) (HM0 : Hid (MayR l ps true)) (HM1 : Hid (MayR l1 q1 true)) (HM2 : Hid (MayR l2 q2 true)) (H4 : Hid (l.take (hdN n l.length) = l ∧ ps.filter (amB (hdN n l.length)) = ps ∧ n = l.length ∧ m = ps.length)) (HSa : Hid (SameR l l ps ps true)) (HSb : Hid (SameR l2 l2 q2 q2 true)) : Calls Try.prog 5 #[.agg #[.slice A n c, .slice B m d], .int .i64 z, .int .i64 y] w fun e w' => e = .returned (.bool true) ∧ Plus w w' := by
  go_enter Try.func5, Try.ntmps5
  go_wp2_with (first | (go_at_call 9; (with_reducible refine (first_c _).mono ?_); rintro e w1 ⟨rfl, ⟨y0, rfl⟩⟩) | (go_at_call 10; (with_reducible refine (few_t _ (H.out.plus (by repeat' (first | exact Plus.refl _ | refine Plus.alloc ?_ _ | refine Plus.plus ?_ _ | refine Plus.drew ?_ | refine Plus.drewN ?_ _)))).mono ?_); rintro e w1 ⟨bf, rfl, hbf, ⟨yf, rfl⟩⟩; have HBF := Lib.hid hbf; clear hbf))
  · go_returns
    exact ⟨rfl, (by repeat' (first | exact Plus.refl _ | refine Plus.alloc ?_ _ | refine Plus.plus ?_ _ | refine Plus.drew ?_ | refine Plus.drewN ?_ _))⟩
  · have hbf : bf = true := by cases bf <;> simp_all
    subst hbf
    obtain ⟨f1, f2, f3⟩ := HBF.out rfl
    have HSM := Lib.hid f3
    have HSM1 : Hid (SmL l1) := Lib.hid (by rw [← H1.out.1]; exact sml_take f3 _)
    clear HBF f3
    refine (head_s _ (H.out.plus (by repeat' (first | exact Plus.refl _ | refine Plus.alloc ?_ _ | refine Plus.plus ?_ _ | refine Plus.drew ?_ | refine Plus.drewN ?_ _))) HSM H1 (by omega) (by omega)).mono ?_
    rintro e w1 ⟨V, c1, V2, c2, rfl, hL1, ⟨xh, rfl⟩⟩
    have HL1 := Lib.hid hL1
    clear hL1
    go_wp2_with fail
    refine (head_s _ (HL1.out.plus (by repeat' (first | exact Plus.refl _ | refine Plus.alloc ?_ _ | refine Plus.plus ?_ _ | refine Plus.drew ?_ | refine Plus.drewN ?_ _))) HSM1 H2 (by omega) (by omega)).mono ?_
    rintro e w1 ⟨U, k1, U2, k2, rfl, hL2, ⟨xk, rfl⟩⟩
    have HL2 := Lib.hid hL2
    clear hL2
    go_wp2_with fail
    go_region_held3 (fun w' => w'.cell? ⟨w.heap.size, 0, none⟩ = some (.slice A n c) ∧ w'.cell? ⟨w.heap.size, 1, none⟩ = some (.slice B m d) ∧ w'.cell? ⟨w.heap.size + 1 + y0.blocks.length + yf.blocks.length + xh.blocks.length, 0, none⟩ = some (.slice V n1 c1) ∧ w'.cell? ⟨w.heap.size + 1 + y0.blocks.length + yf.blocks.length + xh.blocks.length, 1, none⟩ = some (.slice V2 m1 c2) ∧ w'.cell? ⟨w.heap.size + 1 + y0.blocks.length + yf.blocks.length + xh.blocks.length + 1 + xk.blocks.length, 0, none⟩ = some (.slice U n2 k1) ∧ w'.cell? ⟨w.heap.size + 1 + y0.blocks.length + yf.blocks.length + xh.blocks.length + 1 + xk.blocks.length, 1, none⟩ = some (.slice U2 m2 k2)) (refine ⟨?_, ?_, ?_, ?_, ?_, ?_⟩ <;> simp [go_sem]) (first | (go_at_call_of 24 (Value.agg #[.slice A n c, .slice B m d]); (with_reducible refine (may_s _ HM0 (H.out.plus (by repeat' (first | exact Plus.refl _ | refine Plus.alloc ?_ _ | refine Plus.plus ?_ _ | refine Plus.drew ?_ | refine Plus.drewN ?_ _)))).mono ?_); rintro e xw ⟨rfl, ⟨u1, rfl⟩⟩) | (go_at_call_of 24 (Value.agg #[.slice V n1 c1, .slice V2 m1 c2]); (with_reducible refine (may_s _ HM1 (HL1.out.plus (by repeat' (first | exact Plus.refl _ | refine Plus.alloc ?_ _ | refine Plus.plus ?_ _ | refine Plus.drew ?_ | refine Plus.drewN ?_ _)))).mono ?_); rintro e xw ⟨rfl, ⟨u2, rfl⟩⟩) | (go_at_call_of 24 (Value.agg #[.slice U n2 k1, .slice U2 m2 k2]); (with_reducible refine (may_s _ HM2 (HL2.out.plus (by repeat' (first | exact Plus.refl _ | refine Plus.alloc ?_ _ | refine Plus.plus ?_ _ | refine Plus.drew ?_ | refine Plus.drewN ?_ _)))).mono ?_); rintro e xw ⟨rfl, ⟨u3, rfl⟩⟩) | (go_at_call 21; (with_reducible refine (head_s _ (H.out.plus (by repeat' (first | exact Plus.refl _ | refine Plus.alloc ?_ _ | refine Plus.plus ?_ _ | refine Plus.drew ?_ | refine Plus.drewN ?_ _))) HSM H4 (by omega) (by omega)).mono ?_); rintro e xw ⟨T, Tc, T2, Tc2, rfl, hT, ⟨u4, rfl⟩⟩; have HT := Lib.hid hT; clear hT) | (go_at_call 26; (with_reducible refine (same_s _ HSa (HT.out.plus (by repeat' (first | exact Plus.refl _ | refine Plus.alloc ?_ _ | refine Plus.plus ?_ _ | refine Plus.drew ?_ | refine Plus.drewN ?_ _))) (H.out.plus (by repeat' (first | exact Plus.refl _ | refine Plus.alloc ?_ _ | refine Plus.plus ?_ _ | refine Plus.drew ?_ | refine Plus.drewN ?_ _)))).mono ?_); rintro e xw ⟨rfl, ⟨u5, rfl⟩⟩))
    all_goals go_wp2_with fail
    all_goals go_region_held3 (fun w' => w'.cell? ⟨w.heap.size, 0, none⟩ = some (.slice A n c) ∧ w'.cell? ⟨w.heap.size, 1, none⟩ = some (.slice B m d) ∧ w'.cell? ⟨w.heap.size + 1 + y0.blocks.length + yf.blocks.length + xh.blocks.length, 0, none⟩ = some (.slice V n1 c1) ∧ w'.cell? ⟨w.heap.size + 1 + y0.blocks.length + yf.blocks.length + xh.blocks.length, 1, none⟩ = some (.slice V2 m1 c2) ∧ w'.cell? ⟨w.heap.size + 1 + y0.blocks.length + yf.blocks.length + xh.blocks.length + 1 + xk.blocks.length, 0, none⟩ = some (.slice U n2 k1) ∧ w'.cell? ⟨w.heap.size + 1 + y0.blocks.length + yf.blocks.length + xh.blocks.length + 1 + xk.blocks.length, 1, none⟩ = some (.slice U2 m2 k2)) (refine ⟨?_, ?_, ?_, ?_, ?_, ?_⟩ <;> simp [go_sem]) (first | (go_at_call 9; (with_reducible refine (first_c _).mono ?_); rintro e w1 ⟨rfl, ⟨u0, rfl⟩⟩) | (go_at_call 21; (with_reducible refine (head_s _ (H.out.plus (by repeat' (first | exact Plus.refl _ | refine Plus.alloc ?_ _ | refine Plus.plus ?_ _ | refine Plus.drew ?_ | refine Plus.drewN ?_ _))) HSM H5 (by omega) (by omega)).mono ?_); rintro e xw ⟨K, Kc, K2, Kc2, rfl, hK, ⟨u6, rfl⟩⟩; have HK := Lib.hid hK; clear hK) | (go_at_call 26; (with_reducible refine (same_s _ HSb (HL2.out.plus (by repeat' (first | exact Plus.refl _ | refine Plus.alloc ?_ _ | refine Plus.plus ?_ _ | refine Plus.drew ?_ | refine Plus.drewN ?_ _))) (HK.out.plus (by repeat' (first | exact Plus.refl _ | refine Plus.alloc ?_ _ | refine Plus.plus ?_ _ | refine Plus.drew ?_ | refine Plus.drewN ?_ _)))).mono ?_); rintro e xw ⟨rfl, ⟨u7, rfl⟩⟩))
    all_goals go_wp2_with fail
    all_goals go_returns
    all_goals exact ⟨ret_bool (by have q := hmx.out; simp; first | done | omega | ((repeat' split) <;> omega)), (by repeat' (first | exact Plus.refl _ | refine Plus.alloc ?_ _ | refine Plus.plus ?_ _ | refine Plus.drew ?_ | refine Plus.drewN ?_ _))⟩
set_option maxRecDepth 100000 in
set_option maxHeartbeats 16000000 in
theorem heads_tz {l l1 l2 : List Ev} {ps q1 q2 : List Pr} {A B : Option Addr} {n c m d n1 m1 n2 m2 : Nat} {z y : Int} (w : World) (H : Hid (Lg w l ps A n c B m d)) (H1 : Hid (l.take (hdN z l.length) = l1 ∧ ps.filter (amB (hdN z l.length)) = q1 ∧ n1 = l1.length ∧ m1 = q1.length)) (H2 : Hid (l1.take (hdN y l1.length) = l2 ∧ q1.filter (amB (hdN y l1.length)) = q2 ∧ n2 = l2.length ∧ m2 = q2.length)) (H5 : Hid (l.take (hdN z l.length) = l2 ∧ ps.filter (amB (hdN z l.length)) = q2 ∧ n2 = l2.length ∧ m2 = q2.length)) (hn1 : n1 ≤ n) (hm1 : m1 ≤ m) (hmx : Hid ((n1 : Int) ≤ z ∨ n1 = 0)) (hzy : z ≤ y) (HM0 : Hid (MayR l ps true)) (HM1 : Hid (MayR l1 q1 true)) (HM2 : Hid (MayR l2 q2 true)) (H4 : Hid (l.take (hdN n l.length) = l ∧ ps.filter (amB (hdN n l.length)) = ps ∧ n = l.length ∧ m = ps.length)) (HSa : Hid (SameR l l ps ps true)) (HSb : Hid (SameR l2 l2 q2 q2 true)) : Calls Try.prog 5 #[.agg #[.slice A n c, .slice B m d], .int .i64 z, .int .i64 y] w fun e w' => e = .returned (.bool true) ∧ Plus w w' := by
  go_enter Try.func5, Try.ntmps5
  go_wp2_with (first | (go_at_call 9; (with_reducible refine (first_c _).mono ?_); rintro e w1 ⟨rfl, ⟨y0, rfl⟩⟩) | (go_at_call 10; (with_reducible refine (few_t _ (H.out.plus (by repeat' (first | exact Plus.refl _ | refine Plus.alloc ?_ _ | refine Plus.plus ?_ _ | refine Plus.drew ?_ | refine Plus.drewN ?_ _)))).mono ?_); rintro e w1 ⟨bf, rfl, hbf, ⟨yf, rfl⟩⟩; have HBF := Lib.hid hbf; clear hbf))
  · go_returns
    exact ⟨rfl, (by repeat' (first | exact Plus.refl _ | refine Plus.alloc ?_ _ | refine Plus.plus ?_ _ | refine Plus.drew ?_ | refine Plus.drewN ?_ _))⟩
  · have hbf : bf = true := by cases bf <;> simp_all
    subst hbf
    obtain ⟨f1, f2, f3⟩ := HBF.out rfl
    have HSM := Lib.hid f3
    have HSM1 : Hid (SmL l1) := Lib.hid (by rw [← H1.out.1]; exact sml_take f3 _)
    clear HBF f3
    refine (head_s _ (H.out.plus (by repeat' (first | exact Plus.refl _ | refine Plus.alloc ?_ _ | refine Plus.plus ?_ _ | refine Plus.drew ?_ | refine Plus.drewN ?_ _))) HSM H1 (by omega) (by omega)).mono ?_
    rintro e w1 ⟨V, c1, V2, c2, rfl, hL1, ⟨xh, rfl⟩⟩
    have HL1 := Lib.hid hL1
    clear hL1
    go_wp2_with fail
    refine (head_s _ (HL1.out.plus (by repeat' (first | exact Plus.refl _ | refine Plus.alloc ?_ _ | refine Plus.plus ?_ _ | refine Plus.drew ?_ | refine Plus.drewN ?_ _))) HSM1 H2 (by omega) (by omega)).mono ?_
    rintro e w1 ⟨U, k1, U2, k2, rfl, hL2, ⟨xk, rfl⟩⟩
    have HL2 := Lib.hid hL2
    clear hL2
    go_wp2_with fail
    go_region_held3 (fun w' => w'.cell? ⟨w.heap.size, 0, none⟩ = some (.slice A n c) ∧ w'.cell? ⟨w.heap.size, 1, none⟩ = some (.slice B m d) ∧ w'.cell? ⟨w.heap.size + 1 + y0.blocks.length + yf.blocks.length + xh.blocks.length, 0, none⟩ = some (.slice V n1 c1) ∧ w'.cell? ⟨w.heap.size + 1 + y0.blocks.length + yf.blocks.length + xh.blocks.length, 1, none⟩ = some (.slice V2 m1 c2) ∧ w'.cell? ⟨w.heap.size + 1 + y0.blocks.length + yf.blocks.length + xh.blocks.length + 1 + xk.blocks.length, 0, none⟩ = some (.slice U n2 k1) ∧ w'.cell? ⟨w.heap.size + 1 + y0.blocks.length + yf.blocks.length + xh.blocks.length + 1 + xk.blocks.length, 1, none⟩ = some (.slice U2 m2 k2)) (refine ⟨?_, ?_, ?_, ?_, ?_, ?_⟩ <;> simp [go_sem]) (first | (go_at_call_of 24 (Value.agg #[.slice A n c, .slice B m d]); (with_reducible refine (may_s _ HM0 (H.out.plus (by repeat' (first | exact Plus.refl _ | refine Plus.alloc ?_ _ | refine Plus.plus ?_ _ | refine Plus.drew ?_ | refine Plus.drewN ?_ _)))).mono ?_); rintro e xw ⟨rfl, ⟨u1, rfl⟩⟩) | (go_at_call_of 24 (Value.agg #[.slice V n1 c1, .slice V2 m1 c2]); (with_reducible refine (may_s _ HM1 (HL1.out.plus (by repeat' (first | exact Plus.refl _ | refine Plus.alloc ?_ _ | refine Plus.plus ?_ _ | refine Plus.drew ?_ | refine Plus.drewN ?_ _)))).mono ?_); rintro e xw ⟨rfl, ⟨u2, rfl⟩⟩) | (go_at_call_of 24 (Value.agg #[.slice U n2 k1, .slice U2 m2 k2]); (with_reducible refine (may_s _ HM2 (HL2.out.plus (by repeat' (first | exact Plus.refl _ | refine Plus.alloc ?_ _ | refine Plus.plus ?_ _ | refine Plus.drew ?_ | refine Plus.drewN ?_ _)))).mono ?_); rintro e xw ⟨rfl, ⟨u3, rfl⟩⟩) | (go_at_call 21; (with_reducible refine (head_s _ (H.out.plus (by repeat' (first | exact Plus.refl _ | refine Plus.alloc ?_ _ | refine Plus.plus ?_ _ | refine Plus.drew ?_ | refine Plus.drewN ?_ _))) HSM H4 (by omega) (by omega)).mono ?_); rintro e xw ⟨T, Tc, T2, Tc2, rfl, hT, ⟨u4, rfl⟩⟩; have HT := Lib.hid hT; clear hT) | (go_at_call 26; (with_reducible refine (same_s _ HSa (HT.out.plus (by repeat' (first | exact Plus.refl _ | refine Plus.alloc ?_ _ | refine Plus.plus ?_ _ | refine Plus.drew ?_ | refine Plus.drewN ?_ _))) (H.out.plus (by repeat' (first | exact Plus.refl _ | refine Plus.alloc ?_ _ | refine Plus.plus ?_ _ | refine Plus.drew ?_ | refine Plus.drewN ?_ _)))).mono ?_); rintro e xw ⟨rfl, ⟨u5, rfl⟩⟩))
    all_goals go_wp2_with fail
    all_goals have hlt : (y < z) = False := eq_false (by omega)
    all_goals go_region_held3 (fun w' => w'.cell? ⟨w.heap.size, 0, none⟩ = some (.slice A n c) ∧ w'.cell? ⟨w.heap.size, 1, none⟩ = some (.slice B m d) ∧ w'.cell? ⟨w.heap.size + 1 + y0.blocks.length + yf.blocks.length + xh.blocks.length, 0, none⟩ = some (.slice V n1 c1) ∧ w'.cell? ⟨w.heap.size + 1 + y0.blocks.length + yf.blocks.length + xh.blocks.length, 1, none⟩ = some (.slice V2 m1 c2) ∧ w'.cell? ⟨w.heap.size + 1 + y0.blocks.length + yf.blocks.length + xh.blocks.length + 1 + xk.blocks.length, 0, none⟩ = some (.slice U n2 k1) ∧ w'.cell? ⟨w.heap.size + 1 + y0.blocks.length + yf.blocks.length + xh.blocks.length + 1 + xk.blocks.length, 1, none⟩ = some (.slice U2 m2 k2)) (refine ⟨?_, ?_, ?_, ?_, ?_, ?_⟩ <;> simp [go_sem]) (first | (go_at_call 9; (with_reducible refine (first_c _).mono ?_); rintro e w1 ⟨rfl, ⟨u0, rfl⟩⟩) | (go_at_call 21; (with_reducible refine (head_s _ (H.out.plus (by repeat' (first | exact Plus.refl _ | refine Plus.alloc ?_ _ | refine Plus.plus ?_ _ | refine Plus.drew ?_ | refine Plus.drewN ?_ _))) HSM H5 (by omega) (by omega)).mono ?_); rintro e xw ⟨K, Kc, K2, Kc2, rfl, hK, ⟨u6, rfl⟩⟩; have HK := Lib.hid hK; clear hK) | (go_at_call 26; (with_reducible refine (same_s _ HSb (HL2.out.plus (by repeat' (first | exact Plus.refl _ | refine Plus.alloc ?_ _ | refine Plus.plus ?_ _ | refine Plus.drew ?_ | refine Plus.drewN ?_ _))) (HK.out.plus (by repeat' (first | exact Plus.refl _ | refine Plus.alloc ?_ _ | refine Plus.plus ?_ _ | refine Plus.drew ?_ | refine Plus.drewN ?_ _)))).mono ?_); rintro e xw ⟨rfl, ⟨u7, rfl⟩⟩))
    all_goals go_wp2_with fail
    all_goals go_returns
    all_goals exact ⟨ret_bool (by have q := hmx.out; simp; first | done | omega | ((repeat' split) <;> omega)), (by repeat' (first | exact Plus.refl _ | refine Plus.alloc ?_ _ | refine Plus.plus ?_ _ | refine Plus.drew ?_ | refine Plus.drewN ?_ _))⟩
set_option maxRecDepth 100000 in
set_option maxHeartbeats 16000000 in
theorem heads_fy {l l1 l2 : List Ev} {ps q1 q2 : List Pr} {A B : Option Addr} {n c m d n1 m1 n2 m2 : Nat} {z y : Int} (w : World) (H : Hid (Lg w l ps A n c B m d)) (H1 : Hid (l.take (hdN z l.length) = l1 ∧ ps.filter (amB (hdN z l.length)) = q1 ∧ n1 = l1.length ∧ m1 = q1.length)) (H2 : Hid (l1.take (hdN y l1.length) = l2 ∧ q1.filter (amB (hdN y l1.length)) = q2 ∧ n2 = l2.length ∧ m2 = q2.length)) (H5 : Hid (l.take (hdN y l.length) = l2 ∧ ps.filter (amB (hdN y l.length)) = q2 ∧ n2 = l2.length ∧ m2 = q2.length)) (hn1 : n1 ≤ n) (hm1 : m1 ≤ m) (hmx : Hid ((n1 : Int) ≤ z ∨ n1 = 0)) (hzy : y < z) (HM0 : Hid (MayR l ps false)) (HSb : Hid (SameR l2 l2 q2 q2 true)) : Calls Try.prog 5 #[.agg #[.slice A n c, .slice B m d], .int .i64 z, .int .i64 y] w fun e w' => e = .returned (.bool true) ∧ Plus w w' := by
  go_enter Try.func5, Try.ntmps5
  go_wp2_with (first | (go_at_call 9; (with_reducible refine (first_c _).mono ?_); rintro e w1 ⟨rfl, ⟨y0, rfl⟩⟩) | (go_at_call 10; (with_reducible refine (few_t _ (H.out.plus (by repeat' (first | exact Plus.refl _ | refine Plus.alloc ?_ _ | refine Plus.plus ?_ _ | refine Plus.drew ?_ | refine Plus.drewN ?_ _)))).mono ?_); rintro e w1 ⟨bf, rfl, hbf, ⟨yf, rfl⟩⟩; have HBF := Lib.hid hbf; clear hbf))
  · go_returns
    exact ⟨rfl, (by repeat' (first | exact Plus.refl _ | refine Plus.alloc ?_ _ | refine Plus.plus ?_ _ | refine Plus.drew ?_ | refine Plus.drewN ?_ _))⟩
  · have hbf : bf = true := by cases bf <;> simp_all
    subst hbf
    obtain ⟨f1, f2, f3⟩ := HBF.out rfl
    have HSM := Lib.hid f3
    have HSM1 : Hid (SmL l1) := Lib.hid (by rw [← H1.out.1]; exact sml_take f3 _)
    clear HBF f3
    refine (head_s _ (H.out.plus (by repeat' (first | exact Plus.refl _ | refine Plus.alloc ?_ _ | refine Plus.plus ?_ _ | refine Plus.drew ?_ | refine Plus.drewN ?_ _))) HSM H1 (by omega) (by omega)).mono ?_
    rintro e w1 ⟨V, c1, V2, c2, rfl, hL1, ⟨xh, rfl⟩⟩
    have HL1 := Lib.hid hL1
    clear hL1
    go_wp2_with fail
    refine (head_s _ (HL1.out.plus (by repeat' (first | exact Plus.refl _ | refine Plus.alloc ?_ _ | refine Plus.plus ?_ _ | refine Plus.drew ?_ | refine Plus.drewN ?_ _))) HSM1 H2 (by omega) (by omega)).mono ?_
    rintro e w1 ⟨U, k1, U2, k2, rfl, hL2, ⟨xk, rfl⟩⟩
    have HL2 := Lib.hid hL2
    clear hL2
    go_wp2_with fail
    refine wp_region_plus (by kernel_rfl) (by kernel_rfl) ?_
    repeat (go_big_quiet_step ((go_at_call 24; exact calls_plus (may_s _ HM0 (H.out.plus (by repeat' (first | exact Plus.refl _ | refine Plus.alloc ?_ _ | refine Plus.plus ?_ _ | refine Plus.drew ?_ | refine Plus.drewN ?_ _)))))))
    refine wpQuiet_nil ?_
    intro _ hw'
    obtain ⟨x7, rfl⟩ := hw'
    all_goals go_wp2_with fail
    all_goals go_region_held3 (fun w' => w'.cell? ⟨w.heap.size, 0, none⟩ = some (.slice A n c) ∧ w'.cell? ⟨w.heap.size, 1, none⟩ = some (.slice B m d) ∧ w'.cell? ⟨w.heap.size + 1 + y0.blocks.length + yf.blocks.length + xh.blocks.length, 0, none⟩ = some (.slice V n1 c1) ∧ w'.cell? ⟨w.heap.size + 1 + y0.blocks.length + yf.blocks.length + xh.blocks.length, 1, none⟩ = some (.slice V2 m1 c2) ∧ w'.cell? ⟨w.heap.size + 1 + y0.blocks.length + yf.blocks.length + xh.blocks.length + 1 + xk.blocks.length, 0, none⟩ = some (.slice U n2 k1) ∧ w'.cell? ⟨w.heap.size + 1 + y0.blocks.length + yf.blocks.length + xh.blocks.length + 1 + xk.blocks.length, 1, none⟩ = some (.slice U2 m2 k2)) (refine ⟨?_, ?_, ?_, ?_, ?_, ?_⟩ <;> simp [go_sem]) (first | (go_at_call 9; (with_reducible refine (first_c _).mono ?_); rintro e w1 ⟨rfl, ⟨u0, rfl⟩⟩) | (go_at_call 21; (with_reducible refine (head_s _ (H.out.plus (by repeat' (first | exact Plus.refl _ | refine Plus.alloc ?_ _ | refine Plus.plus ?_ _ | refine Plus.drew ?_ | refine Plus.drewN ?_ _))) HSM H5 (by omega) (by omega)).mono ?_); rintro e xw ⟨K, Kc, K2, Kc2, rfl, hK, ⟨u6, rfl⟩⟩; have HK := Lib.hid hK; clear hK) | (go_at_call 26; (with_reducible refine (same_s _ HSb (HL2.out.plus (by repeat' (first | exact Plus.refl _ | refine Plus.alloc ?_ _ | refine Plus.plus ?_ _ | refine Plus.drew ?_ | refine Plus.drewN ?_ _))) (HK.out.plus (by repeat' (first | exact Plus.refl _ | refine Plus.alloc ?_ _ | refine Plus.plus ?_ _ | refine Plus.drew ?_ | refine Plus.drewN ?_ _)))).mono ?_); rintro e xw ⟨rfl, ⟨u7, rfl⟩⟩))
    all_goals go_wp2_with fail
    all_goals go_returns
    all_goals exact ⟨ret_bool (by have q := hmx.out; simp; first | done | omega | ((repeat' split) <;> omega)), (by repeat' (first | exact Plus.refl _ | refine Plus.alloc ?_ _ | refine Plus.plus ?_ _ | refine Plus.drew ?_ | refine Plus.drewN ?_ _))⟩
set_option maxRecDepth 100000 in
set_option maxHeartbeats 16000000 in
theorem heads_fz {l l1 l2 : List Ev} {ps q1 q2 : List Pr} {A B : Option Addr} {n c m d n1 m1 n2 m2 : Nat} {z y : Int} (w : World) (H : Hid (Lg w l ps A n c B m d)) (H1 : Hid (l.take (hdN z l.length) = l1 ∧ ps.filter (amB (hdN z l.length)) = q1 ∧ n1 = l1.length ∧ m1 = q1.length)) (H2 : Hid (l1.take (hdN y l1.length) = l2 ∧ q1.filter (amB (hdN y l1.length)) = q2 ∧ n2 = l2.length ∧ m2 = q2.length)) (H5 : Hid (l.take (hdN z l.length) = l2 ∧ ps.filter (amB (hdN z l.length)) = q2 ∧ n2 = l2.length ∧ m2 = q2.length)) (hn1 : n1 ≤ n) (hm1 : m1 ≤ m) (hmx : Hid ((n1 : Int) ≤ z ∨ n1 = 0)) (hzy : z ≤ y) (HM0 : Hid (MayR l ps false)) (HSb : Hid (SameR l2 l2 q2 q2 true)) : Calls Try.prog 5 #[.agg #[.slice A n c, .slice B m d], .int .i64 z, .int .i64 y] w fun e w' => e = .returned (.bool true) ∧ Plus w w' := by
  go_enter Try.func5, Try.ntmps5
  go_wp2_with (first | (go_at_call 9; (with_reducible refine (first_c _).mono ?_); rintro e w1 ⟨rfl, ⟨y0, rfl⟩⟩) | (go_at_call 10; (with_reducible refine (few_t _ (H.out.plus (by repeat' (first | exact Plus.refl _ | refine Plus.alloc ?_ _ | refine Plus.plus ?_ _ | refine Plus.drew ?_ | refine Plus.drewN ?_ _)))).mono ?_); rintro e w1 ⟨bf, rfl, hbf, ⟨yf, rfl⟩⟩; have HBF := Lib.hid hbf; clear hbf))
  · go_returns
    exact ⟨rfl, (by repeat' (first | exact Plus.refl _ | refine Plus.alloc ?_ _ | refine Plus.plus ?_ _ | refine Plus.drew ?_ | refine Plus.drewN ?_ _))⟩
  · have hbf : bf = true := by cases bf <;> simp_all
    subst hbf
    obtain ⟨f1, f2, f3⟩ := HBF.out rfl
    have HSM := Lib.hid f3
    have HSM1 : Hid (SmL l1) := Lib.hid (by rw [← H1.out.1]; exact sml_take f3 _)
    clear HBF f3
    refine (head_s _ (H.out.plus (by repeat' (first | exact Plus.refl _ | refine Plus.alloc ?_ _ | refine Plus.plus ?_ _ | refine Plus.drew ?_ | refine Plus.drewN ?_ _))) HSM H1 (by omega) (by omega)).mono ?_
    rintro e w1 ⟨V, c1, V2, c2, rfl, hL1, ⟨xh, rfl⟩⟩
    have HL1 := Lib.hid hL1
    clear hL1
    go_wp2_with fail
    refine (head_s _ (HL1.out.plus (by repeat' (first | exact Plus.refl _ | refine Plus.alloc ?_ _ | refine Plus.plus ?_ _ | refine Plus.drew ?_ | refine Plus.drewN ?_ _))) HSM1 H2 (by omega) (by omega)).mono ?_
    rintro e w1 ⟨U, k1, U2, k2, rfl, hL2, ⟨xk, rfl⟩⟩
    have HL2 := Lib.hid hL2
    clear hL2
    go_wp2_with fail
    refine wp_region_plus (by kernel_rfl) (by kernel_rfl) ?_
    repeat (go_big_quiet_step ((go_at_call 24; exact calls_plus (may_s _ HM0 (H.out.plus (by repeat' (first | exact Plus.refl _ | refine Plus.alloc ?_ _ | refine Plus.plus ?_ _ | refine Plus.drew ?_ | refine Plus.drewN ?_ _)))))))
    refine wpQuiet_nil ?_
    intro _ hw'
    obtain ⟨x7, rfl⟩ := hw'
    all_goals go_wp2_with fail
    all_goals have hlt : (y < z) = False := eq_false (by omega)
    all_goals go_region_held3 (fun w' => w'.cell? ⟨w.heap.size, 0, none⟩ = some (.slice A n c) ∧ w'.cell? ⟨w.heap.size, 1, none⟩ = some (.slice B m d) ∧ w'.cell? ⟨w.heap.size + 1 + y0.blocks.length + yf.blocks.length + xh.blocks.length, 0, none⟩ = some (.slice V n1 c1) ∧ w'.cell? ⟨w.heap.size + 1 + y0.blocks.length + yf.blocks.length + xh.blocks.length, 1, none⟩ = some (.slice V2 m1 c2) ∧ w'.cell? ⟨w.heap.size + 1 + y0.blocks.length + yf.blocks.length + xh.blocks.length + 1 + xk.blocks.length, 0, none⟩ = some (.slice U n2 k1) ∧ w'.cell? ⟨w.heap.size + 1 + y0.blocks.length + yf.blocks.length + xh.blocks.length + 1 + xk.blocks.length, 1, none⟩ = some (.slice U2 m2 k2)) (refine ⟨?_, ?_, ?_, ?_, ?_, ?_⟩ <;> simp [go_sem]) (first | (go_at_call 9; (with_reducible refine (first_c _).mono ?_); rintro e w1 ⟨rfl, ⟨u0, rfl⟩⟩) | (go_at_call 21; (with_reducible refine (head_s _ (H.out.plus (by repeat' (first | exact Plus.refl _ | refine Plus.alloc ?_ _ | refine Plus.plus ?_ _ | refine Plus.drew ?_ | refine Plus.drewN ?_ _))) HSM H5 (by omega) (by omega)).mono ?_); rintro e xw ⟨K, Kc, K2, Kc2, rfl, hK, ⟨u6, rfl⟩⟩; have HK := Lib.hid hK; clear hK) | (go_at_call 26; (with_reducible refine (same_s _ HSb (HL2.out.plus (by repeat' (first | exact Plus.refl _ | refine Plus.alloc ?_ _ | refine Plus.plus ?_ _ | refine Plus.drew ?_ | refine Plus.drewN ?_ _))) (HK.out.plus (by repeat' (first | exact Plus.refl _ | refine Plus.alloc ?_ _ | refine Plus.plus ?_ _ | refine Plus.drew ?_ | refine Plus.drewN ?_ _)))).mono ?_); rintro e xw ⟨rfl, ⟨u7, rfl⟩⟩))
    all_goals go_wp2_with fail
    all_goals go_returns
    all_goals exact ⟨ret_bool (by have q := hmx.out; simp; first | done | omega | ((repeat' split) <;> omega)), (by repeat' (first | exact Plus.refl _ | refine Plus.alloc ?_ _ | refine Plus.plus ?_ _ | refine Plus.drew ?_ | refine Plus.drewN ?_ _))⟩
end Go.Proofs.Ytcpmkfoelhopiaa
