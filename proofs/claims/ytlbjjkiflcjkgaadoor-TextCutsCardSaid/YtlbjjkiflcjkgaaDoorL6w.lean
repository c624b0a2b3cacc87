/- The walk of TextCuts. -/
import Derived.Test.YtlbjjkiflcjkgaaDoorR2
namespace Go.Proofs.YtlbjjkiflcjkgaaDoor
open Go.RowKit


set_option maxRecDepth 100000 in
set_option maxHeartbeats 8000000 in
theorem cuts_no (A : Option Addr) (xs : List Nat) (n c : Nat) (q : Nat) (w : World) (hL : Hid (Lai w)) (ha : Hid (Ar .u8 256 w A xs n c)) (f1 : n ≤ 5000) (f6 : decide (n < q) = false) (p er : Int) (h1 : Hid (UnN xs [] p er)) (he : (er == 0) = false) : Calls Tryd.prog 6 #[.slice A n c, .int .i64 q] w fun e w' => e = .returned (.bool true) ∧ Plus w w' := by
  go_enter Tryd.func6, Tryd.ntmps6
  go_wp2_with fail
  refine (first_c _ (hL.out.plus (by repeat' (first | exact Plus.refl _ | refine Plus.alloc ?_ _ | refine Plus.plus ?_ _ | refine Plus.drew ?_ | refine Plus.drewN ?_ _)))).mono ?_
  rintro e w1 ⟨rfl, ⟨y0, rfl⟩⟩
  go_wp2_with fail
  refine (units_n h1 _ (hL.out.plus (by repeat' (first | exact Plus.refl _ | refine Plus.alloc ?_ _ | refine Plus.plus ?_ _ | refine Plus.drew ?_ | refine Plus.drewN ?_ _))) (ha.out.plus (by repeat' (first | exact Plus.refl _ | refine Plus.alloc ?_ _ | refine Plus.plus ?_ _ | refine Plus.drew ?_ | refine Plus.drewN ?_ _)))).mono ?_
  rintro e w1 ⟨C1, d1, rfl, a1, ⟨x1, rfl⟩⟩
  have k1 := a1.cap
  have j1 := a1.max
  replace a1 := Lib.hid a1
  go_wp2_with fail
  refine (first_c _ (hL.out.plus (by repeat' (first | exact Plus.refl _ | refine Plus.alloc ?_ _ | refine Plus.plus ?_ _ | refine Plus.drew ?_ | refine Plus.drewN ?_ _)))).mono ?_
  rintro e w1 ⟨rfl, ⟨y1, rfl⟩⟩
  go_wp2_with fail
  go_returns
  exact ⟨rfl, (by repeat' (first | exact Plus.refl _ | refine Plus.alloc ?_ _ | refine Plus.plus ?_ _ | refine Plus.drew ?_ | refine Plus.drewN ?_ _))⟩

set_option maxRecDepth 100000 in
set_option maxHeartbeats 8000000 in
theorem cuts_yes (A : Option Addr) (xs : List Nat) (n c : Nat) (q : Nat) (w : World) (hL : Hid (Lai w)) (ha : Hid (Ar .u8 256 w A xs n c)) (f1 : n ≤ 5000) (f3 : q ≤ n) (f4 : n ≤ c) (f6 : decide (n < q) = false) (L V : List Nat) (h1 : Hid (UnN xs L 0 0)) (h2 : Hid (UnN (xs.take q) V 0 0)) (hv : V.length ≤ L.length) (hv2 : Hid (decide (V = L.take V.length) = true)) : Calls Tryd.prog 6 #[.slice A n c, .int .i64 q] w fun e w' => e = .returned (.bool true) ∧ Plus w w' := by
  go_enter Tryd.func6, Tryd.ntmps6
  go_wp2_with fail
  refine (first_c _ (hL.out.plus (by repeat' (first | exact Plus.refl _ | refine Plus.alloc ?_ _ | refine Plus.plus ?_ _ | refine Plus.drew ?_ | refine Plus.drewN ?_ _)))).mono ?_
  rintro e w1 ⟨rfl, ⟨y0, rfl⟩⟩
  go_wp2_with fail
  refine (units_n h1 _ (hL.out.plus (by repeat' (first | exact Plus.refl _ | refine Plus.alloc ?_ _ | refine Plus.plus ?_ _ | refine Plus.drew ?_ | refine Plus.drewN ?_ _))) (ha.out.plus (by repeat' (first | exact Plus.refl _ | refine Plus.alloc ?_ _ | refine Plus.plus ?_ _ | refine Plus.drew ?_ | refine Plus.drewN ?_ _)))).mono ?_
  rintro e w1 ⟨C1, d1, rfl, a1, ⟨x1, rfl⟩⟩
  have k1 := a1.cap
  have j1 := a1.max
  replace a1 := Lib.hid a1
  go_wp2_with fail
  refine (units_n h2 _ (hL.out.plus (by repeat' (first | exact Plus.refl _ | refine Plus.alloc ?_ _ | refine Plus.plus ?_ _ | refine Plus.drew ?_ | refine Plus.drewN ?_ _))) ((ha.out.take f3).plus (by repeat' (first | exact Plus.refl _ | refine Plus.alloc ?_ _ | refine Plus.plus ?_ _ | refine Plus.drew ?_ | refine Plus.drewN ?_ _)))).mono ?_
  rintro e w1 ⟨C2, d2, rfl, a2, ⟨x2, rfl⟩⟩
  have k2 := a2.cap
  have j2 := a2.max
  replace a2 := Lib.hid a2
  go_wp2_with fail
  refine (first_c _ (hL.out.plus (by repeat' (first | exact Plus.refl _ | refine Plus.alloc ?_ _ | refine Plus.plus ?_ _ | refine Plus.drew ?_ | refine Plus.drewN ?_ _)))).mono ?_
  rintro e w1 ⟨rfl, ⟨y1, rfl⟩⟩
  go_wp2_with fail
  refine (refUnits_n hv2 _ (a2.out.plus (by repeat' (first | exact Plus.refl _ | refine Plus.alloc ?_ _ | refine Plus.plus ?_ _ | refine Plus.drew ?_ | refine Plus.drewN ?_ _))) ((a1.out.take hv).plus (by repeat' (first | exact Plus.refl _ | refine Plus.alloc ?_ _ | refine Plus.plus ?_ _ | refine Plus.drew ?_ | refine Plus.drewN ?_ _)))).mono ?_
  rintro e w1 ⟨rfl, ⟨y2, rfl⟩⟩
  go_wp2_with fail
  go_returns
  exact ⟨rfl, (by repeat' (first | exact Plus.refl _ | refine Plus.alloc ?_ _ | refine Plus.plus ?_ _ | refine Plus.drew ?_ | refine Plus.drewN ?_ _))⟩

set_option maxRecDepth 100000 in
set_option maxHeartbeats 8000000 in
theorem cuts_cut (A : Option Addr) (xs : List Nat) (n c : Nat) (q p : Nat) (w : World) (hL : Hid (Lai w)) (ha : Hid (Ar .u8 256 w A xs n c)) (f1 : n ≤ 5000) (f3 : q ≤ n) (f4 : n ≤ c) (f6 : decide (n < q) = false) (L V : List Nat) (h1 : Hid (UnN xs L 0 0)) (h2 : Hid (UnN (xs.take q) [] p 2)) (hp : p ≤ n) (hp3 : p < q) (hp4 : q - p < 4) (h3 : Hid (UnN (xs.take p) V 0 0)) (hv : V.length ≤ L.length) (hv2 : Hid (decide (V = L.take V.length) = true)) : Calls Tryd.prog 6 #[.slice A n c, .int .i64 q] w fun e w' => e = .returned (.bool true) ∧ Plus w w' := by
  have s1 : decide ((q : Int) - (p : Int) < 4) = true := by simp; omega
  go_enter Tryd.func6, Tryd.ntmps6
  go_wp2_with fail
  refine (first_c _ (hL.out.plus (by repeat' (first | exact Plus.refl _ | refine Plus.alloc ?_ _ | refine Plus.plus ?_ _ | refine Plus.drew ?_ | refine Plus.drewN ?_ _)))).mono ?_
  rintro e w1 ⟨rfl, ⟨y0, rfl⟩⟩
  go_wp2_with fail
  refine (units_n h1 _ (hL.out.plus (by repeat' (first | exact Plus.refl _ | refine Plus.alloc ?_ _ | refine Plus.plus ?_ _ | refine Plus.drew ?_ | refine Plus.drewN ?_ _))) (ha.out.plus (by repeat' (first | exact Plus.refl _ | refine Plus.alloc ?_ _ | refine Plus.plus ?_ _ | refine Plus.drew ?_ | refine Plus.drewN ?_ _)))).mono ?_
  rintro e w1 ⟨C1, d1, rfl, a1, ⟨x1, rfl⟩⟩
  have k1 := a1.cap
  have j1 := a1.max
  replace a1 := Lib.hid a1
  go_wp2_with fail
  refine (units_n h2 _ (hL.out.plus (by repeat' (first | exact Plus.refl _ | refine Plus.alloc ?_ _ | refine Plus.plus ?_ _ | refine Plus.drew ?_ | refine Plus.drewN ?_ _))) ((ha.out.take f3).plus (by repeat' (first | exact Plus.refl _ | refine Plus.alloc ?_ _ | refine Plus.plus ?_ _ | refine Plus.drew ?_ | refine Plus.drewN ?_ _)))).mono ?_
  rintro e w1 ⟨C2, d2, rfl, a2, ⟨x2, rfl⟩⟩
  have k2 := a2.cap
  have j2 := a2.max
  replace a2 := Lib.hid a2
  go_wp2_with fail
  refine (units_n h3 _ (hL.out.plus (by repeat' (first | exact Plus.refl _ | refine Plus.alloc ?_ _ | refine Plus.plus ?_ _ | refine Plus.drew ?_ | refine Plus.drewN ?_ _))) ((ha.out.take hp).plus (by repeat' (first | exact Plus.refl _ | refine Plus.alloc ?_ _ | refine Plus.plus ?_ _ | refine Plus.drew ?_ | refine Plus.drewN ?_ _)))).mono ?_
  rintro e w1 ⟨C3, d3, rfl, a3, ⟨x3, rfl⟩⟩
  have k3 := a3.cap
  have j3 := a3.max
  replace a3 := Lib.hid a3
  go_wp2_with fail
  refine (first_c _ (hL.out.plus (by repeat' (first | exact Plus.refl _ | refine Plus.alloc ?_ _ | refine Plus.plus ?_ _ | refine Plus.drew ?_ | refine Plus.drewN ?_ _)))).mono ?_
  rintro e w1 ⟨rfl, ⟨y1, rfl⟩⟩
  go_wp2_with fail
  refine (refUnits_n hv2 _ (a3.out.plus (by repeat' (first | exact Plus.refl _ | refine Plus.alloc ?_ _ | refine Plus.plus ?_ _ | refine Plus.drew ?_ | refine Plus.drewN ?_ _))) ((a1.out.take hv).plus (by repeat' (first | exact Plus.refl _ | refine Plus.alloc ?_ _ | refine Plus.plus ?_ _ | refine Plus.drew ?_ | refine Plus.drewN ?_ _)))).mono ?_
  rintro e w1 ⟨rfl, ⟨y2, rfl⟩⟩
  go_wp2_with fail
  go_returns
  exact ⟨rfl, (by repeat' (first | exact Plus.refl _ | refine Plus.alloc ?_ _ | refine Plus.plus ?_ _ | refine Plus.drew ?_ | refine Plus.drewN ?_ _))⟩

set_option maxRecDepth 100000 in
set_option maxHeartbeats 4000000 in
theorem cuts_few (A : Option Addr) (n c : Nat) (z : Int) (w : World) (hL : Hid (Lai w)) (hf : ¬ (n ≤ 5000 ∧ 0 ≤ z ∧ z ≤ n)) : Calls Tryd.prog 6 #[.slice A n c, .int .i64 z] w fun e w' => e = .returned (.bool true) ∧ Plus w w' := by
  have h3 : 5000 < n ∨ n ≤ 5000 ∧ z < 0 ∨ n ≤ 5000 ∧ 0 ≤ z ∧ (n : Int) < z := by omega
  clear hf
  rcases h3 with f1 | ⟨f1, f2⟩ | ⟨f1, f2, f3⟩
  all_goals
    go_enter Tryd.func6, Tryd.ntmps6
    go_wp2_with fail
    refine (first_c _ (hL.out.plus (by repeat' (first | exact Plus.refl _ | refine Plus.alloc ?_ _ | refine Plus.plus ?_ _ | refine Plus.drew ?_ | refine Plus.drewN ?_ _)))).mono ?_
    rintro e w1 ⟨rfl, ⟨y0, rfl⟩⟩
    go_wp2_with fail
    refine (first_c _ (hL.out.plus (by repeat' (first | exact Plus.refl _ | refine Plus.alloc ?_ _ | refine Plus.plus ?_ _ | refine Plus.drew ?_ | refine Plus.drewN ?_ _)))).mono ?_
    rintro e w1 ⟨rfl, ⟨y1, rfl⟩⟩
    go_wp2_with fail
    go_returns
    exact ⟨rfl, (by repeat' (first | exact Plus.refl _ | refine Plus.alloc ?_ _ | refine Plus.plus ?_ _ | refine Plus.drew ?_ | refine Plus.drewN ?_ _))⟩

theorem unN_ok {xs : List Nat} (h : xs.length ≤ 4096) (hk : (deu xs).2.2 = true) : UnN xs (deu xs).1 0 0 := .inr (.inl ⟨h, hk, rfl, rfl, rfl⟩)
theorem unN_no (xs : List Nat) (hk : ¬ (xs.length ≤ 4096 ∧ (deu xs).2.2 = true)) : ∃ p er : Int, UnN xs [] p er ∧ (er == 0) = false := by
  by_cases h : xs.length ≤ 4096
  · have h2 : (deu xs).2.2 = false := by
      cases q : (deu xs).2.2
      · rfl
      · exact absurd ⟨h, q⟩ hk
    exact ⟨_, _, .inr (.inr ⟨h, h2, rfl, rfl, rfl⟩), rfl⟩
  · exact ⟨_, _, .inl ⟨by omega, rfl, rfl, rfl⟩, rfl⟩
set_option maxHeartbeats 4000000 in
theorem cuts_w (A : Option Addr) (xs : List Nat) (n c : Nat) (z : Int) (w : World) (hL : Lai w) (ha : Ar .u8 256 w A xs n c) :
    Calls Tryd.prog 6 #[.slice A n c, .int .i64 z] w fun e w' => e = .returned (.bool true) ∧ Plus w w' := by
  by_cases hf : n ≤ 5000 ∧ 0 ≤ z ∧ z ≤ n
  · obtain ⟨f1, f2, f3⟩ := hf
    obtain ⟨q, rfl⟩ : ∃ q : Nat, z = q := ⟨z.toNat, by omega⟩
    have f3' : q ≤ n := by omega
    have f6 : decide (n < q) = false := by simp; omega
    by_cases hk : xs.length ≤ 4096 ∧ (deu xs).2.2 = true
    · have e1 := unN_ok hk.1 hk.2
      have hl : ∀ j, (xs.take j).length ≤ 4096 := fun j => by rw [List.length_take]; omega
      rcases cut_of ha.bd hk.2 q (by rw [← ha.len]; exact f3') with ⟨k1, t, k2⟩ | ⟨k1, k2, k3, k4, t, k5⟩
      · have hv : (deu (xs.take q)).1.length ≤ (deu xs).1.length := by rw [k2, List.length_append]; omega
        refine cuts_yes A xs n c q w (Lib.hid hL) (Lib.hid ha) f1 f3' ha.cap f6 _ _ (Lib.hid e1) (Lib.hid (unN_ok (hl q) k1)) hv (Lib.hid ?_)
        rw [k2, List.take_left]
        simp
      · have hp : (deu (xs.take q)).2.1 ≤ n := by omega
        have hv : (deu (xs.take (deu (xs.take q)).2.1)).1.length ≤ (deu xs).1.length := by rw [k5, List.length_append]; omega
        refine cuts_cut A xs n c q _ w (Lib.hid hL) (Lib.hid ha) f1 f3' ha.cap f6 _ _ (Lib.hid e1) (Lib.hid (.inr (.inr ⟨hl q, k1, rfl, rfl, rfl⟩))) hp k2 k3 (Lib.hid (unN_ok (hl _) k4)) hv (Lib.hid ?_)
        rw [k5, List.take_left]
        simp
    · obtain ⟨p, er, e1, he⟩ := unN_no xs hk
      exact cuts_no A xs n c q w (Lib.hid hL) (Lib.hid ha) f1 f6 p er (Lib.hid e1) he
  · exact cuts_few A n c z w (Lib.hid hL) hf
end Go.Proofs.YtlbjjkiflcjkgaaDoor
