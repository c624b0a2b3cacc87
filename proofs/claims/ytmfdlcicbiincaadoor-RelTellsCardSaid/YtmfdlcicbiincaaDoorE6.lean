/- shaped. -/
import Derived.WalkKit
import Derived.WalkSpells
import Derived.WalkLawsBesides
import Derived.Handy
import Derived.Deep.RegionHeld3
import Derived.Deep.DeepCutAuto
import Derived.Deep.QuietTactic
import Derived.BigQuiet
import Derived.Lib.Hide
import Derived.KernelRfl
import Derived.WalkMore
import Derived.Deep.LoopGhost
import Derived.IntWalk
import Derived.Test.YtmfdlcicbiincaaDoorE5
namespace Go.Proofs.YtmfdlcicbiincaaDoor
open Go.RowKit

def syncOf (g : Int) : Ev := ⟨g, 0, false, false, 0, 0, 0, [], [], []⟩
def shapedM (e : Ev) : Bool :=
  decide (0 ≤ e.g) && decide (e.g < 64) &&
    (if e.k = 0 then decide (e = syncOf e.g)
    else if e.k = 1 then rangedM e.b e.a e.z && filledM e.r.length e.w.length e.f.length e.z 0
    else if e.k = 2 then rangedM e.b e.a e.z && filledM e.r.length e.w.length e.f.length 0 e.z
    else if e.k = 3 then rangedM e.b e.a e.z && filledM e.r.length e.w.length e.f.length e.z e.z && e.s && e.t
    else false)
theorem ranged_n {g k b a z : Int} {s t : Bool} {R W F : Option Addr} {nr cr nw cw nf cf : Nat} {c : Bool} (h : Hid (rangedM b a z = c)) (w : World) : Calls Tryd.prog 88 #[Value.agg #[.int .i64 g, .int .i64 k, .bool s, .bool t, .int .i64 b, .int .i64 a, .int .i64 z, .slice R nr cr, .slice W nw cw, .slice F nf cf]] w fun e w' => e = .returned (.bool c) ∧ Plus w w' := by
  rw [← h.out]
  exact ranged_c w
theorem filled_n {g k b a z : Int} {s t : Bool} {R W F : Option Addr} {nr cr nw cw nf cf : Nat} {x y : Int} {c : Bool} (h : Hid (filledM nr nw nf x y = c)) (w : World) : Calls Tryd.prog 89 #[Value.agg #[.int .i64 g, .int .i64 k, .bool s, .bool t, .int .i64 b, .int .i64 a, .int .i64 z, .slice R nr cr, .slice W nw cw, .slice F nf cf], .int .i64 x, .int .i64 y] w fun e w' => e = .returned (.bool c) ∧ Plus w w' := by
  rw [← h.out]
  exact filled_c w
theorem samez_n {g k b a z : Int} {s t : Bool} {R W F : Option Addr} {nr cr nw cw nf cf : Nat} {xs us fs : List Int} {c : Bool} (w : World) (H : Hid (decide ((⟨g, k, s, t, b, a, z, xs, us, fs⟩ : Ev) = syncOf g) = c)) (H1 : EM w R W F xs us fs nr cr nw cw nf cf) : Calls Tryd.prog 87 #[Value.agg #[.int .i64 g, .int .i64 k, .bool s, .bool t, .int .i64 b, .int .i64 a, .int .i64 z, .slice R nr cr, .slice W nw cw, .slice F nf cf], Value.agg #[.int .i64 g, .int .i64 0, .bool false, .bool false, .int .i64 0, .int .i64 0, .int .i64 0, .slice none 0 0, .slice none 0 0, .slice none 0 0]] w fun e w' => e = .returned (.bool c) ∧ Plus w w' :=
  same_n w H H1 ⟨Ar.nil _ _ (by omega) _, Ar.nil _ _ (by omega) _, Ar.nil _ _ (by omega) _, fun _ h => absurd h (by simp), fun _ h => absurd h (by simp)⟩
set_option maxRecDepth 100000 in
set_option maxHeartbeats 4000000 in
theorem shaped_0 {g b a z : Int} {s t : Bool} {R W F : Option Addr} {nr cr nw cw nf cf : Nat} {xs us fs : List Int} {c1 : Bool} (w : World) (HS : Hid (decide ((⟨g, 0, s, t, b, a, z, xs, us, fs⟩ : Ev) = syncOf g) = c1)) (H1 : Hid (EM w R W F xs us fs nr cr nw cw nf cf)) : Calls Tryd.prog 77 #[Value.agg #[.int .i64 g, .int .i64 0, .bool s, .bool t, .int .i64 b, .int .i64 a, .int .i64 z, .slice R nr cr, .slice W nw cw, .slice F nf cf]] w fun e w' => e = .returned (.bool (decide (0 ≤ g) && decide (g < 64) && (c1))) ∧ Plus w w' := by
  go_enter Tryd.func77, Tryd.ntmps77
  go_wp2_with (first | (go_at_call 88; (with_reducible refine (ranged_n HR _).mono ?_); rintro e w1 ⟨rfl, ⟨x, rfl⟩⟩) | (go_at_call 89; (with_reducible refine (filled_n HF _).mono ?_); rintro e w1 ⟨rfl, ⟨x2, rfl⟩⟩) | (go_at_call 87; (with_reducible refine (samez_n _ HS (H1.out.plus (by repeat' (first | exact Plus.refl _ | refine Plus.alloc ?_ _ | refine Plus.plus ?_ _ | refine Plus.drew ?_ | refine Plus.drewN ?_ _)))).mono ?_); rintro e w1 ⟨rfl, ⟨x3, rfl⟩⟩))
  all_goals go_returns
  all_goals exact ⟨ret_bool (by simp_all; try omega), (by repeat' (first | exact Plus.refl _ | refine Plus.alloc ?_ _ | refine Plus.plus ?_ _ | refine Plus.drew ?_ | refine Plus.drewN ?_ _))⟩
set_option maxRecDepth 100000 in
set_option maxHeartbeats 4000000 in
theorem shaped_1 {g b a z : Int} {s t : Bool} {R W F : Option Addr} {nr cr nw cw nf cf : Nat} {xs us fs : List Int} {c1 c2 : Bool} (w : World) (HR : Hid (rangedM b a z = c1)) (HF : Hid (filledM nr nw nf z 0 = c2)) (_H1 : Hid (EM w R W F xs us fs nr cr nw cw nf cf)) : Calls Tryd.prog 77 #[Value.agg #[.int .i64 g, .int .i64 1, .bool s, .bool t, .int .i64 b, .int .i64 a, .int .i64 z, .slice R nr cr, .slice W nw cw, .slice F nf cf]] w fun e w' => e = .returned (.bool (decide (0 ≤ g) && decide (g < 64) && (c1 && c2))) ∧ Plus w w' := by
  go_enter Tryd.func77, Tryd.ntmps77
  go_wp2_with (first | (go_at_call 88; (with_reducible refine (ranged_n HR _).mono ?_); rintro e w1 ⟨rfl, ⟨x, rfl⟩⟩) | (go_at_call 89; (with_reducible refine (filled_n HF _).mono ?_); rintro e w1 ⟨rfl, ⟨x2, rfl⟩⟩) | (go_at_call 87; (with_reducible refine (samez_n _ HS (_H1.out.plus (by repeat' (first | exact Plus.refl _ | refine Plus.alloc ?_ _ | refine Plus.plus ?_ _ | refine Plus.drew ?_ | refine Plus.drewN ?_ _)))).mono ?_); rintro e w1 ⟨rfl, ⟨x3, rfl⟩⟩))
  all_goals go_returns
  all_goals exact ⟨ret_bool (by simp_all; try omega), (by repeat' (first | exact Plus.refl _ | refine Plus.alloc ?_ _ | refine Plus.plus ?_ _ | refine Plus.drew ?_ | refine Plus.drewN ?_ _))⟩
set_option maxRecDepth 100000 in
set_option maxHeartbeats 4000000 in
theorem shaped_2 {g b a z : Int} {s t : Bool} {R W F : Option Addr} {nr cr nw cw nf cf : Nat} {xs us fs : List Int} {c1 c2 : Bool} (w : World) (HR : Hid (rangedM b a z = c1)) (HF : Hid (filledM nr nw nf 0 z = c2)) (_H1 : Hid (EM w R W F xs us fs nr cr nw cw nf cf)) : Calls Tryd.prog 77 #[Value.agg #[.int .i64 g, .int .i64 2, .bool s, .bool t, .int .i64 b, .int .i64 a, .int .i64 z, .slice R nr cr, .slice W nw cw, .slice F nf cf]] w fun e w' => e = .returned (.bool (decide (0 ≤ g) && decide (g < 64) && (c1 && c2))) ∧ Plus w w' := by
  go_enter Tryd.func77, Tryd.ntmps77
  go_wp2_with (first | (go_at_call 88; (with_reducible refine (ranged_n HR _).mono ?_); rintro e w1 ⟨rfl, ⟨x, rfl⟩⟩) | (go_at_call 89; (with_reducible refine (filled_n HF _).mono ?_); rintro e w1 ⟨rfl, ⟨x2, rfl⟩⟩) | (go_at_call 87; (with_reducible refine (samez_n _ HS (_H1.out.plus (by repeat' (first | exact Plus.refl _ | refine Plus.alloc ?_ _ | refine Plus.plus ?_ _ | refine Plus.drew ?_ | refine Plus.drewN ?_ _)))).mono ?_); rintro e w1 ⟨rfl, ⟨x3, rfl⟩⟩))
  all_goals go_returns
  all_goals exact ⟨ret_bool (by simp_all; try omega), (by repeat' (first | exact Plus.refl _ | refine Plus.alloc ?_ _ | refine Plus.plus ?_ _ | refine Plus.drew ?_ | refine Plus.drewN ?_ _))⟩
set_option maxRecDepth 100000 in
set_option maxHeartbeats 4000000 in
theorem shaped_3 {g b a z : Int} {s t : Bool} {R W F : Option Addr} {nr cr nw cw nf cf : Nat} {xs us fs : List Int} {c1 c2 : Bool} (w : World) (HR : Hid (rangedM b a z = c1)) (HF : Hid (filledM nr nw nf z z = c2)) (_H1 : Hid (EM w R W F xs us fs nr cr nw cw nf cf)) : Calls Tryd.prog 77 #[Value.agg #[.int .i64 g, .int .i64 3, .bool s, .bool t, .int .i64 b, .int .i64 a, .int .i64 z, .slice R nr cr, .slice W nw cw, .slice F nf cf]] w fun e w' => e = .returned (.bool (decide (0 ≤ g) && decide (g < 64) && (c1 && c2 && s && t))) ∧ Plus w w' := by
  go_enter Tryd.func77, Tryd.ntmps77
  go_wp2_with (first | (go_at_call 88; (with_reducible refine (ranged_n HR _).mono ?_); rintro e w1 ⟨rfl, ⟨x, rfl⟩⟩) | (go_at_call 89; (with_reducible refine (filled_n HF _).mono ?_); rintro e w1 ⟨rfl, ⟨x2, rfl⟩⟩) | (go_at_call 87; (with_reducible refine (samez_n _ HS (_H1.out.plus (by repeat' (first | exact Plus.refl _ | refine Plus.alloc ?_ _ | refine Plus.plus ?_ _ | refine Plus.drew ?_ | refine Plus.drewN ?_ _)))).mono ?_); rintro e w1 ⟨rfl, ⟨x3, rfl⟩⟩))
  all_goals go_returns
  all_goals exact ⟨ret_bool (by simp_all; try omega), (by repeat' (first | exact Plus.refl _ | refine Plus.alloc ?_ _ | refine Plus.plus ?_ _ | refine Plus.drew ?_ | refine Plus.drewN ?_ _))⟩
set_option maxRecDepth 100000 in
set_option maxHeartbeats 4000000 in
theorem shaped_x {g k b a z : Int} {s t : Bool} {R W F : Option Addr} {nr cr nw cw nf cf : Nat} (w : World) (k0 : (k == 0) = false) (k1 : (k == 1) = false) (k2 : (k == 2) = false) (k3 : (k == 3) = false) : Calls Tryd.prog 77 #[Value.agg #[.int .i64 g, .int .i64 k, .bool s, .bool t, .int .i64 b, .int .i64 a, .int .i64 z, .slice R nr cr, .slice W nw cw, .slice F nf cf]] w fun e w' => e = .returned (.bool false) ∧ Plus w w' := by
  go_enter Tryd.func77, Tryd.ntmps77
  go_wp2_with fail
  all_goals go_returns
  all_goals exact ⟨rfl, (by repeat' (first | exact Plus.refl _ | refine Plus.alloc ?_ _ | refine Plus.plus ?_ _ | refine Plus.drew ?_ | refine Plus.drewN ?_ _))⟩
theorem shaped_n {g k b a z : Int} {s t : Bool} {R W F : Option Addr} {nr cr nw cw nf cf : Nat} {xs us fs : List Int} {c : Bool} (w : World) (H : Hid (shapedM ⟨g, k, s, t, b, a, z, xs, us, fs⟩ = c)) (H1 : EM w R W F xs us fs nr cr nw cw nf cf) : Calls Tryd.prog 77 #[Value.agg #[.int .i64 g, .int .i64 k, .bool s, .bool t, .int .i64 b, .int .i64 a, .int .i64 z, .slice R nr cr, .slice W nw cw, .slice F nf cf]] w fun e w' => e = .returned (.bool c) ∧ Plus w w' := by
  rw [← H.out]
  clear H
  have e1 := H1.er.len
  have e2 := H1.ew.len
  have e3 := H1.ef.len
  unfold shapedM
  simp only
  subst e1 e2 e3
  by_cases k0 : k = 0
  · subst k0
    rw [if_pos rfl]
    exact shaped_0 w (Lib.hid rfl) (Lib.hid H1)
  · rw [if_neg k0]
    by_cases k1 : k = 1
    · subst k1
      rw [if_pos rfl]
      exact shaped_1 w (Lib.hid rfl) (Lib.hid rfl) (Lib.hid H1)
    · rw [if_neg k1]
      by_cases k2 : k = 2
      · subst k2
        rw [if_pos rfl]
        exact shaped_2 w (Lib.hid rfl) (Lib.hid rfl) (Lib.hid H1)
      · rw [if_neg k2]
        by_cases k3 : k = 3
        · subst k3
          rw [if_pos rfl]
          have q := shaped_3 (s := s) (t := t) (g := g) w (c1 := rangedM b a z) (c2 := filledM xs.length us.length fs.length z z) (Lib.hid rfl) (Lib.hid rfl) (Lib.hid H1)
          exact q
        · rw [if_neg k3, Bool.and_false]
          exact shaped_x w (by simpa using k0) (by simpa using k1) (by simpa using k2) (by simpa using k3)
end Go.Proofs.YtmfdlcicbiincaaDoor
