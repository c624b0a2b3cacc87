/- The walk of TextTells. -/
import Derived.IntWalk
import Derived.Test.YtdckonlipinblaaGreatDoorD9
namespace Go.Proofs.YtdckonlipinblaaGreatDoor
open Go.RowKit


theorem plain_n {A : Option Addr} {xs : List Nat} {n c : Nat} {S : ByteArray} {b : Bool} (h : Hid (plS xs = S ∧ low xs = b)) (w : World) (ha : Ar .u16 65536 w A xs n c) (hs : n ≤ 1000000) : Calls Tryz.prog 5 #[.slice A n c] w fun e w' => e = .returned (.tuple #[.string S, .bool b]) ∧ Plus w w' := by
  have e := plain_c A xs n c w ha (by omega)
  rw [h.out.1, h.out.2] at e
  exact e
theorem rPlain_n {A : Option Addr} {xs : List Nat} {n c : Nat} {S : ByteArray} {b : Bool} (h : Hid (plS xs = S ∧ low xs = b)) (w : World) (ha : Ar .u16 65536 w A xs n c) (hs : n ≤ 1000000) : Calls Tryz.prog 6 #[.slice A n c] w fun e w' => e = .returned (.tuple #[.string S, .bool b]) ∧ Plus w w' := by
  have e := rPlain_c A xs n c w ha (by omega)
  rw [h.out.1, h.out.2] at e
  exact e
theorem number_n {A : Option Addr} {xs : List Nat} {n c : Nat} {k0 n0 : Int} {ok : Bool} (hh : Hid (numU xs = ⟨k0, n0, ok⟩)) (w : World) (hL : Lai w) (h : Ar .u16 65536 w A xs n c) (hs : n ≤ 1000000) :
    Calls Tryz.prog 7 #[.slice A n c] w fun e w' => e = .returned (.tuple #[.agg #[.int .i64 k0, .int .i64 n0], .bool ok]) ∧ Plus w w' := by
  have e := number_c A xs n c w hL h hs
  rw [hh.out] at e
  exact e
theorem rNumber_n {A : Option Addr} {xs : List Nat} {n c : Nat} {k0 n0 : Int} {ok : Bool} (hh : Hid (numU xs = ⟨k0, n0, ok⟩)) (w : World) (h : Ar .u16 65536 w A xs n c) :
    Calls Tryz.prog 8 #[.slice A n c] w fun e w' => e = .returned (.tuple #[.agg #[.int .i64 k0, .int .i64 n0], .bool ok]) ∧ Plus w w' := by
  refine (rNumber_c A xs n c w h).mono ?_
  rintro e w' ⟨mid, hm, rfl, hp⟩
  have q := numU_mid hm
  rw [hh.out] at q
  rw [← q]
  exact ⟨rfl, hp⟩
theorem key_n {A : Option Addr} {xs : List Nat} {n c : Nat} {r : Int} {b : Bool} (hb : Hid (kyI xs = r ∧ kyB xs = b)) (w : World) (hL : Lai w) (h : Ar .u16 65536 w A xs n c) (hs : n ≤ 1000000) :
    Calls Tryz.prog 9 #[.slice A n c] w fun e w' => e = .returned (.tuple #[.int .i64 r, .bool b]) ∧ Plus w w' := by
  have q := ky_same xs
  rw [hb.out.1, hb.out.2] at q
  exact key_h A xs n c w (Lib.hid hL) (Lib.hid h) (by omega) _ _ _ (Lib.hid rfl) r b (Lib.hid q)
theorem rKey_n {A : Option Addr} {xs : List Nat} {n c : Nat} {r : Int} {b : Bool} (hb : Hid (kyI xs = r ∧ kyB xs = b)) (w : World) (h : Ar .u16 65536 w A xs n c) :
    Calls Tryz.prog 10 #[.slice A n c] w fun e w' => e = .returned (.tuple #[.int .i64 r, .bool b]) ∧ w = w' := by
  have e := rKey_c A xs n c w h
  rw [hb.out.1, hb.out.2] at e
  exact e
theorem refNum_same (k n : Int) (w : World) : Calls Tryz.prog 11 #[.agg #[.int .i64 k, .int .i64 n], .agg #[.int .i64 k, .int .i64 n]] w fun e w' => e = .returned (.bool true) ∧ Plus w w' := by
  have e := refNum_c k n k n w
  rw [show decide (k = k ∧ n = n) = true by simp] at e
  exact e
theorem less_n {A C : Option Addr} {xs ys : List Nat} {n c m d : Nat} {b : Bool} (h : Hid (lessL xs ys = b)) (w : World) (ha : Ar .u16 65536 w A xs n c) (hb : Ar .u16 65536 w C ys m d) : Calls Tryz.prog 12 #[.slice A n c, .slice C m d] w fun e w' => e = .returned (.bool b) ∧ w = w' := by
  have e := less_c A C xs ys n c m d w ha hb
  rw [h.out] at e
  exact e
theorem rLess_n {A C : Option Addr} {xs ys : List Nat} {n c m d : Nat} {b : Bool} (h : Hid (lessL xs ys = b)) (w : World) (ha : Ar .u16 65536 w A xs n c) (hb : Ar .u16 65536 w C ys m d) : Calls Tryz.prog 13 #[.slice A n c, .slice C m d] w fun e w' => e = .returned (.bool b) ∧ Plus w w' := by
  have e := rLess_c A C xs ys n c m d w ha hb
  rw [h.out] at e
  exact e
theorem same_n {A C : Option Addr} {xs ys : List Nat} {n c m d : Nat} {b : Bool} (h : Hid (decide (xs = ys) = b)) (w : World) (ha : Ar .u16 65536 w A xs n c) (hb : Ar .u16 65536 w C ys m d) : Calls Tryz.prog 14 #[.slice A n c, .slice C m d] w fun e w' => e = .returned (.bool b) ∧ Plus w w' := by
  have e := same_c A C xs ys n c m d w ha hb
  rw [h.out] at e
  exact e
theorem refUnits_y {A C : Option Addr} {xs : List Nat} {n c m d : Nat} (w : World) (ha : Ar .u16 65536 w A xs n c) (hb : Ar .u16 65536 w C xs m d) :
    Calls Tryz.prog 15 #[.slice A n c, .slice C m d] w fun e w' => e = .returned (.bool true) ∧ Plus w w' := by
  have e := refUnits_c A C xs xs n c m d w ha hb
  rw [show decide (xs = xs) = true by simp] at e
  exact e

set_option maxRecDepth 100000 in
set_option maxHeartbeats 16000000 in
theorem tells_h (A C : Option Addr) (xs ys : List Nat) (n c m d : Nat) (s : ByteArray) (w : World) (hL : Hid (Lai w)) (ha : Hid (Ar .u16 65536 w A xs n c)) (hb : Hid (Ar .u16 65536 w C ys m d)) (f1 : n ≤ 5000) (f2 : m ≤ 5000) (f3 : s.size ≤ 5000)
    (S : ByteArray) (b : Bool) (h1 : Hid (plS xs = S ∧ low xs = b)) (k0 n0 : Int) (ok : Bool) (h2 : Hid (numU xs = ⟨k0, n0, ok⟩)) (r : Int) (kb : Bool) (h3 : Hid (kyI xs = r ∧ kyB xs = kb)) (lb : Bool) (h4 : Hid (lessL xs ys = lb)) (sb : Bool) (h5 : Hid (decide (xs = ys) = sb)) (zs : List Nat) (zn : Nat) (h6 : Hid (nats s = zs ∧ zn = zs.length)) :
    Calls Tryz.prog 3 #[.slice A n c, .slice C m d, .string s] w fun e w' => e = .returned (.bool true) ∧ Plus w w' := by
  have hS2 : (S.toList == S.toList) = true := by simp
  go_enter Tryz.func3, Tryz.ntmps3
  go_wp2_with fail
  (with_reducible refine (first_c _ (hL.out.plus (by repeat' (first | exact Plus.refl _ | refine Plus.alloc ?_ _ | refine Plus.plus ?_ _ | refine Plus.drew ?_ | refine Plus.drewN ?_ _)))).mono ?_)
  rintro e w1 ⟨rfl, ⟨y1, rfl⟩⟩
  go_wp2_with fail
  (with_reducible refine (plain_n h1 _ (ha.out.plus (by repeat' (first | exact Plus.refl _ | refine Plus.alloc ?_ _ | refine Plus.plus ?_ _ | refine Plus.drew ?_ | refine Plus.drewN ?_ _))) (by omega)).mono ?_)
  rintro e w1 ⟨rfl, ⟨y2, rfl⟩⟩
  go_wp2_with fail
  (with_reducible refine (rPlain_n h1 _ (ha.out.plus (by repeat' (first | exact Plus.refl _ | refine Plus.alloc ?_ _ | refine Plus.plus ?_ _ | refine Plus.drew ?_ | refine Plus.drewN ?_ _))) (by omega)).mono ?_)
  rintro e w1 ⟨rfl, ⟨y3, rfl⟩⟩
  go_wp2_with fail
  (with_reducible refine (number_n h2 _ (hL.out.plus (by repeat' (first | exact Plus.refl _ | refine Plus.alloc ?_ _ | refine Plus.plus ?_ _ | refine Plus.drew ?_ | refine Plus.drewN ?_ _))) (ha.out.plus (by repeat' (first | exact Plus.refl _ | refine Plus.alloc ?_ _ | refine Plus.plus ?_ _ | refine Plus.drew ?_ | refine Plus.drewN ?_ _))) (by omega)).mono ?_)
  rintro e w1 ⟨rfl, ⟨y4, rfl⟩⟩
  go_wp2_with fail
  (with_reducible refine (rNumber_n h2 _ (ha.out.plus (by repeat' (first | exact Plus.refl _ | refine Plus.alloc ?_ _ | refine Plus.plus ?_ _ | refine Plus.drew ?_ | refine Plus.drewN ?_ _)))).mono ?_)
  rintro e w1 ⟨rfl, ⟨y5, rfl⟩⟩
  go_wp2_with fail
  (with_reducible refine (key_n h3 _ (hL.out.plus (by repeat' (first | exact Plus.refl _ | refine Plus.alloc ?_ _ | refine Plus.plus ?_ _ | refine Plus.drew ?_ | refine Plus.drewN ?_ _))) (ha.out.plus (by repeat' (first | exact Plus.refl _ | refine Plus.alloc ?_ _ | refine Plus.plus ?_ _ | refine Plus.drew ?_ | refine Plus.drewN ?_ _))) (by omega)).mono ?_)
  rintro e w1 ⟨rfl, ⟨y6, rfl⟩⟩
  go_wp2_with fail
  (with_reducible refine (rKey_n h3 _ (ha.out.plus (by repeat' (first | exact Plus.refl _ | refine Plus.alloc ?_ _ | refine Plus.plus ?_ _ | refine Plus.drew ?_ | refine Plus.drewN ?_ _)))).mono ?_)
  rintro e w1 ⟨rfl, rfl⟩
  go_wp2_with fail
  (with_reducible refine (first_c _ (hL.out.plus (by repeat' (first | exact Plus.refl _ | refine Plus.alloc ?_ _ | refine Plus.plus ?_ _ | refine Plus.drew ?_ | refine Plus.drewN ?_ _)))).mono ?_)
  rintro e w1 ⟨rfl, ⟨y8, rfl⟩⟩
  go_wp2_with fail
  (with_reducible refine (refNum_same k0 n0 _).mono ?_)
  rintro e w1 ⟨rfl, ⟨y9, rfl⟩⟩
  go_wp2_with fail
  (with_reducible refine (less_n h4 _ (ha.out.plus (by repeat' (first | exact Plus.refl _ | refine Plus.alloc ?_ _ | refine Plus.plus ?_ _ | refine Plus.drew ?_ | refine Plus.drewN ?_ _))) (hb.out.plus (by repeat' (first | exact Plus.refl _ | refine Plus.alloc ?_ _ | refine Plus.plus ?_ _ | refine Plus.drew ?_ | refine Plus.drewN ?_ _)))).mono ?_)
  rintro e w1 ⟨rfl, rfl⟩
  go_wp2_with fail
  (with_reducible refine (rLess_n h4 _ (ha.out.plus (by repeat' (first | exact Plus.refl _ | refine Plus.alloc ?_ _ | refine Plus.plus ?_ _ | refine Plus.drew ?_ | refine Plus.drewN ?_ _))) (hb.out.plus (by repeat' (first | exact Plus.refl _ | refine Plus.alloc ?_ _ | refine Plus.plus ?_ _ | refine Plus.drew ?_ | refine Plus.drewN ?_ _)))).mono ?_)
  rintro e w1 ⟨rfl, ⟨y11, rfl⟩⟩
  go_wp2_with fail
  (with_reducible refine (same_n h5 _ (ha.out.plus (by repeat' (first | exact Plus.refl _ | refine Plus.alloc ?_ _ | refine Plus.plus ?_ _ | refine Plus.drew ?_ | refine Plus.drewN ?_ _))) (hb.out.plus (by repeat' (first | exact Plus.refl _ | refine Plus.alloc ?_ _ | refine Plus.plus ?_ _ | refine Plus.drew ?_ | refine Plus.drewN ?_ _)))).mono ?_)
  rintro e w1 ⟨rfl, ⟨y12, rfl⟩⟩
  go_wp2_with fail
  (with_reducible refine (refUnits_n h5 _ (ha.out.plus (by repeat' (first | exact Plus.refl _ | refine Plus.alloc ?_ _ | refine Plus.plus ?_ _ | refine Plus.drew ?_ | refine Plus.drewN ?_ _))) (hb.out.plus (by repeat' (first | exact Plus.refl _ | refine Plus.alloc ?_ _ | refine Plus.plus ?_ _ | refine Plus.drew ?_ | refine Plus.drewN ?_ _)))).mono ?_)
  rintro e w1 ⟨rfl, ⟨y13, rfl⟩⟩
  go_wp2_with fail
  (with_reducible refine (ascii_n s (by omega) zs zn h6 _).mono ?_)
  rintro e w1 ⟨A8, c8, rfl, a8, ⟨z8, rfl⟩⟩
  replace a8 := Lib.hid a8
  go_wp2_with fail
  (with_reducible refine (refAscii_n s (by omega) zs zn h6 _).mono ?_)
  rintro e w1 ⟨A9, c9, rfl, a9, ⟨z9, rfl⟩⟩
  replace a9 := Lib.hid a9
  go_wp2_with fail
  (with_reducible refine (refUnits_y _ (a8.out.plus (by repeat' (first | exact Plus.refl _ | refine Plus.alloc ?_ _ | refine Plus.plus ?_ _ | refine Plus.drew ?_ | refine Plus.drewN ?_ _))) (a9.out.plus (by repeat' (first | exact Plus.refl _ | refine Plus.alloc ?_ _ | refine Plus.plus ?_ _ | refine Plus.drew ?_ | refine Plus.drewN ?_ _)))).mono ?_)
  rintro e w1 ⟨rfl, ⟨y16, rfl⟩⟩
  go_wp2_with fail
  go_returns
  exact ⟨rfl, (by repeat' (first | exact Plus.refl _ | refine Plus.alloc ?_ _ | refine Plus.plus ?_ _ | refine Plus.drew ?_ | refine Plus.drewN ?_ _))⟩

set_option maxRecDepth 100000 in
set_option maxHeartbeats 4000000 in
theorem tells_few (A C : Option Addr) (n c m d : Nat) (s : ByteArray) (w : World) (hL : Hid (Lai w)) (hf : ¬ (n ≤ 5000 ∧ m ≤ 5000 ∧ s.size ≤ 5000)) : Calls Tryz.prog 3 #[.slice A n c, .slice C m d, .string s] w fun e w' => e = .returned (.bool true) ∧ Plus w w' := by
  have h3 : 5000 < n ∨ (n ≤ 5000 ∧ 5000 < m) ∨ (n ≤ 5000 ∧ m ≤ 5000 ∧ 5000 < s.size) := by omega
  clear hf
  rcases h3 with f1 | ⟨f1, f2⟩ | ⟨f1, f2, f3⟩
  all_goals
    go_enter Tryz.func3, Tryz.ntmps3
    go_wp2_with fail
    refine (first_c _ (hL.out.plus (by repeat' (first | exact Plus.refl _ | refine Plus.alloc ?_ _ | refine Plus.plus ?_ _ | refine Plus.drew ?_ | refine Plus.drewN ?_ _)))).mono ?_
    rintro e w1 ⟨rfl, ⟨y0, rfl⟩⟩
    go_wp2_with fail
    refine (first_c _ (hL.out.plus (by repeat' (first | exact Plus.refl _ | refine Plus.alloc ?_ _ | refine Plus.plus ?_ _ | refine Plus.drew ?_ | refine Plus.drewN ?_ _)))).mono ?_
    rintro e w1 ⟨rfl, ⟨y1, rfl⟩⟩
    go_wp2_with fail
    go_returns
    exact ⟨rfl, (by repeat' (first | exact Plus.refl _ | refine Plus.alloc ?_ _ | refine Plus.plus ?_ _ | refine Plus.drew ?_ | refine Plus.drewN ?_ _))⟩

set_option maxHeartbeats 4000000 in
theorem tells_w (A C : Option Addr) (xs ys : List Nat) (n c m d : Nat) (s : ByteArray) (w : World) (hL : Lai w) (ha : Ar .u16 65536 w A xs n c) (hb : Ar .u16 65536 w C ys m d) :
    Calls Tryz.prog 3 #[.slice A n c, .slice C m d, .string s] w fun e w' => e = .returned (.bool true) ∧ Plus w w' := by
  by_cases hf : n ≤ 5000 ∧ m ≤ 5000 ∧ s.size ≤ 5000
  · exact tells_h A C xs ys n c m d s w (Lib.hid hL) (Lib.hid ha) (Lib.hid hb) hf.1 hf.2.1 hf.2.2 _ _ (Lib.hid ⟨rfl, rfl⟩) _ _ _ (Lib.hid rfl) _ _ (Lib.hid ⟨rfl, rfl⟩) _ (Lib.hid rfl) _ (Lib.hid rfl) _ _ (Lib.hid ⟨rfl, rfl⟩)
  · exact tells_few A C n c m d s w (Lib.hid hL) hf
end Go.Proofs.YtdckonlipinblaaGreatDoor
