/- The walk of LexRises, where it ends early. -/
import Derived.Deep.QuietTactic
import Derived.BigQuiet
import Derived.Deep.RegionHeld3
import Derived.IntWalk
import Derived.Test.YtaigkjffglbknaaDoorQ5
namespace Go.Proofs.YtaigkjffglbknaaDoor
open Go.RowKit

set_option maxRecDepth 100000 in
set_option maxHeartbeats 64000000 in
theorem rise_f (A1 : Option Addr) (n c : Nat) (w : World) (HL : Hid (Lai w)) (dn : decide ((5000 : Int) < (n : Int)) = true) : Calls Tryd.prog 4 #[.slice A1 n c] w fun e w' => e = .returned (.bool true) ∧ Plus w w' := by
  go_enter Tryd.func4, Tryd.ntmps4
  go_wp2_with (go_at_call 11; (with_reducible refine (first_c _ (Lib.hid (HL.out.plus (by repeat' (first | exact Plus.refl _ | refine Plus.alloc ?_ _ | refine Plus.plus ?_ _ | refine Plus.drew ?_ | refine Plus.drewN ?_ _))))).mono ?_); rintro e w1 ⟨rfl, ⟨y0, rfl⟩⟩)
  go_ret
  exact ⟨rfl, (by repeat' (first | exact Plus.refl _ | refine Plus.alloc ?_ _ | refine Plus.plus ?_ _ | refine Plus.drew ?_ | refine Plus.drewN ?_ _))⟩
set_option maxRecDepth 100000 in
set_option maxHeartbeats 64000000 in
theorem rise_ez (A1 : Option Addr) (xs : List Nat) (n c : Nat) (w : World) (HL : Hid (Lai w)) (ha : Hid (Ar .u16 65536 w A1 xs n c)) (hn : n ≤ 5000) (dn : decide ((5000 : Int) < (n : Int)) = false) (h0 : n = 0) (a er : Nat) (za ze : Int) (Ha : Hid ((a : Int) = za)) (He : Hid ((er : Int) = ze)) (he : (ze != 0) = true) (a0 : decide (0 ≤ za) = true) (a1 : decide (za < 1) = true) (T1 : Hid (tokM xs = ⟨[], a, er⟩)) : Calls Tryd.prog 4 #[.slice A1 n c] w fun e w' => e = .returned (.bool true) ∧ Plus w w' := by
  subst h0
  go_enter Tryd.func4, Tryd.ntmps4
  go_wp2_with (go_at_call 11; (with_reducible refine (first_c _ (Lib.hid (HL.out.plus (by repeat' (first | exact Plus.refl _ | refine Plus.alloc ?_ _ | refine Plus.plus ?_ _ | refine Plus.drew ?_ | refine Plus.drewN ?_ _))))).mono ?_); rintro e w1 ⟨rfl, ⟨y0, rfl⟩⟩)
  refine (tokR_c _ xs _ _ _ (ha.out.plus (by repeat' (first | exact Plus.refl _ | refine Plus.alloc ?_ _ | refine Plus.plus ?_ _ | refine Plus.drew ?_ | refine Plus.drewN ?_ _))) (by omega) (HL.out.plus (by repeat' (first | exact Plus.refl _ | refine Plus.alloc ?_ _ | refine Plus.plus ?_ _ | refine Plus.drew ?_ | refine Plus.drewN ?_ _)))).mono ?_
  rintro e w1 ⟨B1, d1, rs1, rfl, m1, k1, j1, R1, t1, ⟨y1, rfl⟩⟩
  rw [T1.out] at m1 ⊢
  dsimp only at m1 ⊢
  have M1 := Lib.hid m1
  have RR1 := Lib.hid R1
  clear m1 R1 t1
  have l1 : rs1.length = 0 := len_of M1.out
  rw [l1, Ha.out, He.out]
  go_wp2_with (first | (go_at_call 11; (with_reducible refine (first_c _ (Lib.hid (HL.out.plus (by repeat' (first | exact Plus.refl _ | refine Plus.alloc ?_ _ | refine Plus.plus ?_ _ | refine Plus.drew ?_ | refine Plus.drewN ?_ _))))).mono ?_); rintro e w1 ⟨rfl, ⟨y5, rfl⟩⟩))
  go_ret
  refine ⟨?_, (by repeat' (first | exact Plus.refl _ | refine Plus.alloc ?_ _ | refine Plus.plus ?_ _ | refine Plus.drew ?_ | refine Plus.drewN ?_ _))⟩
  show Ending.returned (.bool (decide (za < max 0 1))) = _
  rw [show max (0 : Int) 1 = 1 from rfl, a1]
set_option maxRecDepth 100000 in
set_option maxHeartbeats 64000000 in
theorem rise_ep (A1 : Option Addr) (xs : List Nat) (n c : Nat) (w : World) (HL : Hid (Lai w)) (ha : Hid (Ar .u16 65536 w A1 xs n c)) (hn : n ≤ 5000) (dn : decide ((5000 : Int) < (n : Int)) = false) (h0 : ((1 : Int) ≤ (n : Int))) (a er : Nat) (za ze : Int) (Ha : Hid ((a : Int) = za)) (He : Hid ((er : Int) = ze)) (he : (ze != 0) = true) (a0 : decide (0 ≤ za) = true) (a1 : decide (za < (n : Int)) = true) (T1 : Hid (tokM xs = ⟨[], a, er⟩)) : Calls Tryd.prog 4 #[.slice A1 n c] w fun e w' => e = .returned (.bool true) ∧ Plus w w' := by
  have hmx : max (n : Int) 1 = (n : Int) := Int.max_eq_left h0
  go_enter Tryd.func4, Tryd.ntmps4
  go_wp2_with (go_at_call 11; (with_reducible refine (first_c _ (Lib.hid (HL.out.plus (by repeat' (first | exact Plus.refl _ | refine Plus.alloc ?_ _ | refine Plus.plus ?_ _ | refine Plus.drew ?_ | refine Plus.drewN ?_ _))))).mono ?_); rintro e w1 ⟨rfl, ⟨y0, rfl⟩⟩)
  refine (tokR_c _ xs _ _ _ (ha.out.plus (by repeat' (first | exact Plus.refl _ | refine Plus.alloc ?_ _ | refine Plus.plus ?_ _ | refine Plus.drew ?_ | refine Plus.drewN ?_ _))) (by omega) (HL.out.plus (by repeat' (first | exact Plus.refl _ | refine Plus.alloc ?_ _ | refine Plus.plus ?_ _ | refine Plus.drew ?_ | refine Plus.drewN ?_ _)))).mono ?_
  rintro e w1 ⟨B1, d1, rs1, rfl, m1, k1, j1, R1, t1, ⟨y1, rfl⟩⟩
  rw [T1.out] at m1 ⊢
  dsimp only at m1 ⊢
  have M1 := Lib.hid m1
  have RR1 := Lib.hid R1
  clear m1 R1 t1
  have l1 : rs1.length = 0 := len_of M1.out
  rw [l1, Ha.out, He.out]
  go_wp2_with (first | (go_at_call 11; (with_reducible refine (first_c _ (Lib.hid (HL.out.plus (by repeat' (first | exact Plus.refl _ | refine Plus.alloc ?_ _ | refine Plus.plus ?_ _ | refine Plus.drew ?_ | refine Plus.drewN ?_ _))))).mono ?_); rintro e w1 ⟨rfl, ⟨y5, rfl⟩⟩))
  go_ret
  exact ⟨rfl, (by repeat' (first | exact Plus.refl _ | refine Plus.alloc ?_ _ | refine Plus.plus ?_ _ | refine Plus.drew ?_ | refine Plus.drewN ?_ _))⟩


end Go.Proofs.YtaigkjffglbknaaDoor
