/- The walk of TextBack. -/
import Derived.Test.YtlbjjkiflcjkgaaDoorR2
namespace Go.Proofs.YtlbjjkiflcjkgaaDoor
open Go.RowKit


set_option maxRecDepth 100000 in
set_option maxHeartbeats 8000000 in
theorem back_y_none (A C : Option Addr) (xs us : List Nat) (n c m d : Nat) (w : World) (hL : Hid (Lai w)) (ha : Hid (Ar .u8 256 w A xs n c)) (hb : Hid (Ar .u16 65536 w C us m d)) (f1 : n ≤ 5000) (f2 : m ≤ 5000) (L : List Nat) (h1 : Hid (UnN xs L 0 0)) (h2 : Hid (ByN L xs 0)) (hl1 : L.length ≤ 5000) (hl : decide (n < L.length) = false) (h3 : Hid (ByN us [] 2)) : Calls Tryd.prog 4 #[.slice A n c, .slice C m d] w fun e w' => e = .returned (.bool true) ∧ Plus w w' := by
  go_enter Tryd.func4, Tryd.ntmps4
  go_wp2_with fail
  refine (first_c _ (hL.out.plus (by repeat' (first | exact Plus.refl _ | refine Plus.alloc ?_ _ | refine Plus.plus ?_ _ | refine Plus.drew ?_ | refine Plus.drewN ?_ _)))).mono ?_
  rintro e w1 ⟨rfl, ⟨y0, rfl⟩⟩
  go_wp2_with fail
  refine (units_n h1 _ (hL.out.plus (by repeat' (first | exact Plus.refl _ | refine Plus.alloc ?_ _ | refine Plus.plus ?_ _ | refine Plus.drew ?_ | refine Plus.drewN ?_ _))) (ha.out.plus (by repeat' (first | exact Plus.refl _ | refine Plus.alloc ?_ _ | refine Plus.plus ?_ _ | refine Plus.drew ?_ | refine Plus.drewN ?_ _)))).mono ?_
  rintro e w1 ⟨C1, d1, rfl, a1, ⟨x1, rfl⟩⟩
  replace a1 := Lib.hid a1
  go_wp2_with fail
  refine (bytes_n h2 _ (a1.out.plus (by repeat' (first | exact Plus.refl _ | refine Plus.alloc ?_ _ | refine Plus.plus ?_ _ | refine Plus.drew ?_ | refine Plus.drewN ?_ _))) (by omega)).mono ?_
  rintro e w1 ⟨C2, d2, rfl, a2, ⟨x2, rfl⟩⟩
  replace a2 := Lib.hid a2
  go_wp2_with fail
  refine (refBytes_n (b := true) (Lib.hid (by simp)) _ (a2.out.plus (by repeat' (first | exact Plus.refl _ | refine Plus.alloc ?_ _ | refine Plus.plus ?_ _ | refine Plus.drew ?_ | refine Plus.drewN ?_ _))) (ha.out.plus (by repeat' (first | exact Plus.refl _ | refine Plus.alloc ?_ _ | refine Plus.plus ?_ _ | refine Plus.drew ?_ | refine Plus.drewN ?_ _)))).mono ?_
  rintro e w1 ⟨rfl, rfl⟩
  go_wp2_with fail
  refine (bytes_n h3 _ (hb.out.plus (by repeat' (first | exact Plus.refl _ | refine Plus.alloc ?_ _ | refine Plus.plus ?_ _ | refine Plus.drew ?_ | refine Plus.drewN ?_ _))) (by omega)).mono ?_
  rintro e w1 ⟨C3, d3, rfl, a3, ⟨x3, rfl⟩⟩
  replace a3 := Lib.hid a3
  go_wp2_with fail
  refine (first_c _ (hL.out.plus (by repeat' (first | exact Plus.refl _ | refine Plus.alloc ?_ _ | refine Plus.plus ?_ _ | refine Plus.drew ?_ | refine Plus.drewN ?_ _)))).mono ?_
  rintro e w1 ⟨rfl, ⟨y1, rfl⟩⟩
  go_wp2_with fail
  go_returns
  exact ⟨rfl, (by repeat' (first | exact Plus.refl _ | refine Plus.alloc ?_ _ | refine Plus.plus ?_ _ | refine Plus.drew ?_ | refine Plus.drewN ?_ _))⟩

set_option maxRecDepth 100000 in
set_option maxHeartbeats 8000000 in
theorem back_y_long (A C : Option Addr) (xs us : List Nat) (n c m d : Nat) (w : World) (hL : Hid (Lai w)) (ha : Hid (Ar .u8 256 w A xs n c)) (hb : Hid (Ar .u16 65536 w C us m d)) (f1 : n ≤ 5000) (f2 : m ≤ 5000) (L : List Nat) (h1 : Hid (UnN xs L 0 0)) (h2 : Hid (ByN L xs 0)) (hl1 : L.length ≤ 5000) (hl : decide (n < L.length) = false) (G : List Nat) (h3 : Hid (ByN us G 0)) (g1 : decide ((4096 : Int) < (G.length : Int)) = true) : Calls Tryd.prog 4 #[.slice A n c, .slice C m d] w fun e w' => e = .returned (.bool true) ∧ Plus w w' := by
  go_enter Tryd.func4, Tryd.ntmps4
  go_wp2_with fail
  refine (first_c _ (hL.out.plus (by repeat' (first | exact Plus.refl _ | refine Plus.alloc ?_ _ | refine Plus.plus ?_ _ | refine Plus.drew ?_ | refine Plus.drewN ?_ _)))).mono ?_
  rintro e w1 ⟨rfl, ⟨y0, rfl⟩⟩
  go_wp2_with fail
  refine (units_n h1 _ (hL.out.plus (by repeat' (first | exact Plus.refl _ | refine Plus.alloc ?_ _ | refine Plus.plus ?_ _ | refine Plus.drew ?_ | refine Plus.drewN ?_ _))) (ha.out.plus (by repeat' (first | exact Plus.refl _ | refine Plus.alloc ?_ _ | refine Plus.plus ?_ _ | refine Plus.drew ?_ | refine Plus.drewN ?_ _)))).mono ?_
  rintro e w1 ⟨C1, d1, rfl, a1, ⟨x1, rfl⟩⟩
  replace a1 := Lib.hid a1
  go_wp2_with fail
  refine (bytes_n h2 _ (a1.out.plus (by repeat' (first | exact Plus.refl _ | refine Plus.alloc ?_ _ | refine Plus.plus ?_ _ | refine Plus.drew ?_ | refine Plus.drewN ?_ _))) (by omega)).mono ?_
  rintro e w1 ⟨C2, d2, rfl, a2, ⟨x2, rfl⟩⟩
  replace a2 := Lib.hid a2
  go_wp2_with fail
  refine (refBytes_n (b := true) (Lib.hid (by simp)) _ (a2.out.plus (by repeat' (first | exact Plus.refl _ | refine Plus.alloc ?_ _ | refine Plus.plus ?_ _ | refine Plus.drew ?_ | refine Plus.drewN ?_ _))) (ha.out.plus (by repeat' (first | exact Plus.refl _ | refine Plus.alloc ?_ _ | refine Plus.plus ?_ _ | refine Plus.drew ?_ | refine Plus.drewN ?_ _)))).mono ?_
  rintro e w1 ⟨rfl, rfl⟩
  go_wp2_with fail
  refine (bytes_n h3 _ (hb.out.plus (by repeat' (first | exact Plus.refl _ | refine Plus.alloc ?_ _ | refine Plus.plus ?_ _ | refine Plus.drew ?_ | refine Plus.drewN ?_ _))) (by omega)).mono ?_
  rintro e w1 ⟨C3, d3, rfl, a3, ⟨x3, rfl⟩⟩
  replace a3 := Lib.hid a3
  go_wp2_with fail
  refine (first_c _ (hL.out.plus (by repeat' (first | exact Plus.refl _ | refine Plus.alloc ?_ _ | refine Plus.plus ?_ _ | refine Plus.drew ?_ | refine Plus.drewN ?_ _)))).mono ?_
  rintro e w1 ⟨rfl, ⟨y1, rfl⟩⟩
  go_wp2_with fail
  go_returns
  exact ⟨rfl, (by repeat' (first | exact Plus.refl _ | refine Plus.alloc ?_ _ | refine Plus.plus ?_ _ | refine Plus.drew ?_ | refine Plus.drewN ?_ _))⟩

set_option maxRecDepth 100000 in
set_option maxHeartbeats 8000000 in
theorem back_y_short (A C : Option Addr) (xs us : List Nat) (n c m d : Nat) (w : World) (hL : Hid (Lai w)) (ha : Hid (Ar .u8 256 w A xs n c)) (hb : Hid (Ar .u16 65536 w C us m d)) (f1 : n ≤ 5000) (f2 : m ≤ 5000) (L : List Nat) (h1 : Hid (UnN xs L 0 0)) (h2 : Hid (ByN L xs 0)) (hl1 : L.length ≤ 5000) (hl : decide (n < L.length) = false) (G : List Nat) (h3 : Hid (ByN us G 0)) (g1 : decide ((4096 : Int) < (G.length : Int)) = false) (h4 : Hid (UnN G us 0 0)) : Calls Tryd.prog 4 #[.slice A n c, .slice C m d] w fun e w' => e = .returned (.bool true) ∧ Plus w w' := by
  go_enter Tryd.func4, Tryd.ntmps4
  go_wp2_with fail
  refine (first_c _ (hL.out.plus (by repeat' (first | exact Plus.refl _ | refine Plus.alloc ?_ _ | refine Plus.plus ?_ _ | refine Plus.drew ?_ | refine Plus.drewN ?_ _)))).mono ?_
  rintro e w1 ⟨rfl, ⟨y0, rfl⟩⟩
  go_wp2_with fail
  refine (units_n h1 _ (hL.out.plus (by repeat' (first | exact Plus.refl _ | refine Plus.alloc ?_ _ | refine Plus.plus ?_ _ | refine Plus.drew ?_ | refine Plus.drewN ?_ _))) (ha.out.plus (by repeat' (first | exact Plus.refl _ | refine Plus.alloc ?_ _ | refine Plus.plus ?_ _ | refine Plus.drew ?_ | refine Plus.drewN ?_ _)))).mono ?_
  rintro e w1 ⟨C1, d1, rfl, a1, ⟨x1, rfl⟩⟩
  replace a1 := Lib.hid a1
  go_wp2_with fail
  refine (bytes_n h2 _ (a1.out.plus (by repeat' (first | exact Plus.refl _ | refine Plus.alloc ?_ _ | refine Plus.plus ?_ _ | refine Plus.drew ?_ | refine Plus.drewN ?_ _))) (by omega)).mono ?_
  rintro e w1 ⟨C2, d2, rfl, a2, ⟨x2, rfl⟩⟩
  replace a2 := Lib.hid a2
  go_wp2_with fail
  refine (refBytes_n (b := true) (Lib.hid (by simp)) _ (a2.out.plus (by repeat' (first | exact Plus.refl _ | refine Plus.alloc ?_ _ | refine Plus.plus ?_ _ | refine Plus.drew ?_ | refine Plus.drewN ?_ _))) (ha.out.plus (by repeat' (first | exact Plus.refl _ | refine Plus.alloc ?_ _ | refine Plus.plus ?_ _ | refine Plus.drew ?_ | refine Plus.drewN ?_ _)))).mono ?_
  rintro e w1 ⟨rfl, rfl⟩
  go_wp2_with fail
  refine (bytes_n h3 _ (hb.out.plus (by repeat' (first | exact Plus.refl _ | refine Plus.alloc ?_ _ | refine Plus.plus ?_ _ | refine Plus.drew ?_ | refine Plus.drewN ?_ _))) (by omega)).mono ?_
  rintro e w1 ⟨C3, d3, rfl, a3, ⟨x3, rfl⟩⟩
  replace a3 := Lib.hid a3
  go_wp2_with fail
  refine (units_n h4 _ (hL.out.plus (by repeat' (first | exact Plus.refl _ | refine Plus.alloc ?_ _ | refine Plus.plus ?_ _ | refine Plus.drew ?_ | refine Plus.drewN ?_ _))) (a3.out.plus (by repeat' (first | exact Plus.refl _ | refine Plus.alloc ?_ _ | refine Plus.plus ?_ _ | refine Plus.drew ?_ | refine Plus.drewN ?_ _)))).mono ?_
  rintro e w1 ⟨C4, d4, rfl, a4, ⟨x4, rfl⟩⟩
  replace a4 := Lib.hid a4
  go_wp2_with fail
  refine (first_c _ (hL.out.plus (by repeat' (first | exact Plus.refl _ | refine Plus.alloc ?_ _ | refine Plus.plus ?_ _ | refine Plus.drew ?_ | refine Plus.drewN ?_ _)))).mono ?_
  rintro e w1 ⟨rfl, ⟨y1, rfl⟩⟩
  go_wp2_with fail
  refine (refUnits_n (b := true) (Lib.hid (by simp)) _ (a4.out.plus (by repeat' (first | exact Plus.refl _ | refine Plus.alloc ?_ _ | refine Plus.plus ?_ _ | refine Plus.drew ?_ | refine Plus.drewN ?_ _))) (hb.out.plus (by repeat' (first | exact Plus.refl _ | refine Plus.alloc ?_ _ | refine Plus.plus ?_ _ | refine Plus.drew ?_ | refine Plus.drewN ?_ _)))).mono ?_
  rintro e w1 ⟨rfl, ⟨y2, rfl⟩⟩
  go_wp2_with fail
  go_returns
  exact ⟨rfl, (by repeat' (first | exact Plus.refl _ | refine Plus.alloc ?_ _ | refine Plus.plus ?_ _ | refine Plus.drew ?_ | refine Plus.drewN ?_ _))⟩

set_option maxRecDepth 100000 in
set_option maxHeartbeats 8000000 in
theorem back_n_none (A C : Option Addr) (xs us : List Nat) (n c m d : Nat) (w : World) (hL : Hid (Lai w)) (ha : Hid (Ar .u8 256 w A xs n c)) (hb : Hid (Ar .u16 65536 w C us m d)) (f1 : n ≤ 5000) (f2 : m ≤ 5000) (p er : Int) (h1 : Hid (UnN xs [] p er)) (he : (er == 0) = false) (h3 : Hid (ByN us [] 2)) : Calls Tryd.prog 4 #[.slice A n c, .slice C m d] w fun e w' => e = .returned (.bool true) ∧ Plus w w' := by
  go_enter Tryd.func4, Tryd.ntmps4
  go_wp2_with fail
  refine (first_c _ (hL.out.plus (by repeat' (first | exact Plus.refl _ | refine Plus.alloc ?_ _ | refine Plus.plus ?_ _ | refine Plus.drew ?_ | refine Plus.drewN ?_ _)))).mono ?_
  rintro e w1 ⟨rfl, ⟨y0, rfl⟩⟩
  go_wp2_with fail
  refine (units_n h1 _ (hL.out.plus (by repeat' (first | exact Plus.refl _ | refine Plus.alloc ?_ _ | refine Plus.plus ?_ _ | refine Plus.drew ?_ | refine Plus.drewN ?_ _))) (ha.out.plus (by repeat' (first | exact Plus.refl _ | refine Plus.alloc ?_ _ | refine Plus.plus ?_ _ | refine Plus.drew ?_ | refine Plus.drewN ?_ _)))).mono ?_
  rintro e w1 ⟨C1, d1, rfl, a1, ⟨x1, rfl⟩⟩
  replace a1 := Lib.hid a1
  go_wp2_with fail
  refine (bytes_n h3 _ (hb.out.plus (by repeat' (first | exact Plus.refl _ | refine Plus.alloc ?_ _ | refine Plus.plus ?_ _ | refine Plus.drew ?_ | refine Plus.drewN ?_ _))) (by omega)).mono ?_
  rintro e w1 ⟨C3, d3, rfl, a3, ⟨x3, rfl⟩⟩
  replace a3 := Lib.hid a3
  go_wp2_with fail
  refine (first_c _ (hL.out.plus (by repeat' (first | exact Plus.refl _ | refine Plus.alloc ?_ _ | refine Plus.plus ?_ _ | refine Plus.drew ?_ | refine Plus.drewN ?_ _)))).mono ?_
  rintro e w1 ⟨rfl, ⟨y1, rfl⟩⟩
  go_wp2_with fail
  go_returns
  exact ⟨rfl, (by repeat' (first | exact Plus.refl _ | refine Plus.alloc ?_ _ | refine Plus.plus ?_ _ | refine Plus.drew ?_ | refine Plus.drewN ?_ _))⟩

set_option maxRecDepth 100000 in
set_option maxHeartbeats 8000000 in
theorem back_n_long (A C : Option Addr) (xs us : List Nat) (n c m d : Nat) (w : World) (hL : Hid (Lai w)) (ha : Hid (Ar .u8 256 w A xs n c)) (hb : Hid (Ar .u16 65536 w C us m d)) (f1 : n ≤ 5000) (f2 : m ≤ 5000) (p er : Int) (h1 : Hid (UnN xs [] p er)) (he : (er == 0) = false) (G : List Nat) (h3 : Hid (ByN us G 0)) (g1 : decide ((4096 : Int) < (G.length : Int)) = true) : Calls Tryd.prog 4 #[.slice A n c, .slice C m d] w fun e w' => e = .returned (.bool true) ∧ Plus w w' := by
  go_enter Tryd.func4, Tryd.ntmps4
  go_wp2_with fail
  refine (first_c _ (hL.out.plus (by repeat' (first | exact Plus.refl _ | refine Plus.alloc ?_ _ | refine Plus.plus ?_ _ | refine Plus.drew ?_ | refine Plus.drewN ?_ _)))).mono ?_
  rintro e w1 ⟨rfl, ⟨y0, rfl⟩⟩
  go_wp2_with fail
  refine (units_n h1 _ (hL.out.plus (by repeat' (first | exact Plus.refl _ | refine Plus.alloc ?_ _ | refine Plus.plus ?_ _ | refine Plus.drew ?_ | refine Plus.drewN ?_ _))) (ha.out.plus (by repeat' (first | exact Plus.refl _ | refine Plus.alloc ?_ _ | refine Plus.plus ?_ _ | refine Plus.drew ?_ | refine Plus.drewN ?_ _)))).mono ?_
  rintro e w1 ⟨C1, d1, rfl, a1, ⟨x1, rfl⟩⟩
  replace a1 := Lib.hid a1
  go_wp2_with fail
  refine (bytes_n h3 _ (hb.out.plus (by repeat' (first | exact Plus.refl _ | refine Plus.alloc ?_ _ | refine Plus.plus ?_ _ | refine Plus.drew ?_ | refine Plus.drewN ?_ _))) (by omega)).mono ?_
  rintro e w1 ⟨C3, d3, rfl, a3, ⟨x3, rfl⟩⟩
  replace a3 := Lib.hid a3
  go_wp2_with fail
  refine (first_c _ (hL.out.plus (by repeat' (first | exact Plus.refl _ | refine Plus.alloc ?_ _ | refine Plus.plus ?_ _ | refine Plus.drew ?_ | refine Plus.drewN ?_ _)))).mono ?_
  rintro e w1 ⟨rfl, ⟨y1, rfl⟩⟩
  go_wp2_with fail
  go_returns
  exact ⟨rfl, (by repeat' (first | exact Plus.refl _ | refine Plus.alloc ?_ _ | refine Plus.plus ?_ _ | refine Plus.drew ?_ | refine Plus.drewN ?_ _))⟩

set_option maxRecDepth 100000 in
set_option maxHeartbeats 8000000 in
theorem back_n_short (A C : Option Addr) (xs us : List Nat) (n c m d : Nat) (w : World) (hL : Hid (Lai w)) (ha : Hid (Ar .u8 256 w A xs n c)) (hb : Hid (Ar .u16 65536 w C us m d)) (f1 : n ≤ 5000) (f2 : m ≤ 5000) (p er : Int) (h1 : Hid (UnN xs [] p er)) (he : (er == 0) = false) (G : List Nat) (h3 : Hid (ByN us G 0)) (g1 : decide ((4096 : Int) < (G.length : Int)) = false) (h4 : Hid (UnN G us 0 0)) : Calls Tryd.prog 4 #[.slice A n c, .slice C m d] w fun e w' => e = .returned (.bool true) ∧ Plus w w' := by
  go_enter Tryd.func4, Tryd.ntmps4
  go_wp2_with fail
  refine (first_c _ (hL.out.plus (by repeat' (first | exact Plus.refl _ | refine Plus.alloc ?_ _ | refine Plus.plus ?_ _ | refine Plus.drew ?_ | refine Plus.drewN ?_ _)))).mono ?_
  rintro e w1 ⟨rfl, ⟨y0, rfl⟩⟩
  go_wp2_with fail
  refine (units_n h1 _ (hL.out.plus (by repeat' (first | exact Plus.refl _ | refine Plus.alloc ?_ _ | refine Plus.plus ?_ _ | refine Plus.drew ?_ | refine Plus.drewN ?_ _))) (ha.out.plus (by repeat' (first | exact Plus.refl _ | refine Plus.alloc ?_ _ | refine Plus.plus ?_ _ | refine Plus.drew ?_ | refine Plus.drewN ?_ _)))).mono ?_
  rintro e w1 ⟨C1, d1, rfl, a1, ⟨x1, rfl⟩⟩
  replace a1 := Lib.hid a1
  go_wp2_with fail
  refine (bytes_n h3 _ (hb.out.plus (by repeat' (first | exact Plus.refl _ | refine Plus.alloc ?_ _ | refine Plus.plus ?_ _ | refine Plus.drew ?_ | refine Plus.drewN ?_ _))) (by omega)).mono ?_
  rintro e w1 ⟨C3, d3, rfl, a3, ⟨x3, rfl⟩⟩
  replace a3 := Lib.hid a3
  go_wp2_with fail
  refine (units_n h4 _ (hL.out.plus (by repeat' (first | exact Plus.refl _ | refine Plus.alloc ?_ _ | refine Plus.plus ?_ _ | refine Plus.drew ?_ | refine Plus.drewN ?_ _))) (a3.out.plus (by repeat' (first | exact Plus.refl _ | refine Plus.alloc ?_ _ | refine Plus.plus ?_ _ | refine Plus.drew ?_ | refine Plus.drewN ?_ _)))).mono ?_
  rintro e w1 ⟨C4, d4, rfl, a4, ⟨x4, rfl⟩⟩
  replace a4 := Lib.hid a4
  go_wp2_with fail
  refine (first_c _ (hL.out.plus (by repeat' (first | exact Plus.refl _ | refine Plus.alloc ?_ _ | refine Plus.plus ?_ _ | refine Plus.drew ?_ | refine Plus.drewN ?_ _)))).mono ?_
  rintro e w1 ⟨rfl, ⟨y1, rfl⟩⟩
  go_wp2_with fail
  refine (refUnits_n (b := true) (Lib.hid (by simp)) _ (a4.out.plus (by repeat' (first | exact Plus.refl _ | refine Plus.alloc ?_ _ | refine Plus.plus ?_ _ | refine Plus.drew ?_ | refine Plus.drewN ?_ _))) (hb.out.plus (by repeat' (first | exact Plus.refl _ | refine Plus.alloc ?_ _ | refine Plus.plus ?_ _ | refine Plus.drew ?_ | refine Plus.drewN ?_ _)))).mono ?_
  rintro e w1 ⟨rfl, ⟨y2, rfl⟩⟩
  go_wp2_with fail
  go_returns
  exact ⟨rfl, (by repeat' (first | exact Plus.refl _ | refine Plus.alloc ?_ _ | refine Plus.plus ?_ _ | refine Plus.drew ?_ | refine Plus.drewN ?_ _))⟩

set_option maxRecDepth 100000 in
set_option maxHeartbeats 4000000 in
theorem back_few (A C : Option Addr) (n c m d : Nat) (w : World) (hL : Hid (Lai w)) (hf : ¬ (n ≤ 5000 ∧ m ≤ 5000)) : Calls Tryd.prog 4 #[.slice A n c, .slice C m d] w fun e w' => e = .returned (.bool true) ∧ Plus w w' := by
  have h3 : 5000 < n ∨ n ≤ 5000 ∧ 5000 < m := by omega
  clear hf
  rcases h3 with f1 | ⟨f1, f2⟩
  all_goals
    go_enter Tryd.func4, Tryd.ntmps4
    go_wp2_with fail
    refine (first_c _ (hL.out.plus (by repeat' (first | exact Plus.refl _ | refine Plus.alloc ?_ _ | refine Plus.plus ?_ _ | refine Plus.drew ?_ | refine Plus.drewN ?_ _)))).mono ?_
    rintro e w1 ⟨rfl, ⟨y0, rfl⟩⟩
    go_wp2_with fail
    refine (first_c _ (hL.out.plus (by repeat' (first | exact Plus.refl _ | refine Plus.alloc ?_ _ | refine Plus.plus ?_ _ | refine Plus.drew ?_ | refine Plus.drewN ?_ _)))).mono ?_
    rintro e w1 ⟨rfl, ⟨y1, rfl⟩⟩
    go_wp2_with fail
    go_returns
    exact ⟨rfl, (by repeat' (first | exact Plus.refl _ | refine Plus.alloc ?_ _ | refine Plus.plus ?_ _ | refine Plus.drew ?_ | refine Plus.drewN ?_ _))⟩

theorem unN_ok {xs : List Nat} (h : xs.length ≤ 4096) (hk : (deu xs).2.2 = true) : UnN xs (deu xs).1 0 0 := .inr (.inl ⟨h, hk, rfl, rfl, rfl⟩)
theorem unN_no (xs : List Nat) (hk : ¬ (xs.length ≤ 4096 ∧ (deu xs).2.2 = true)) : ∃ p er : Int, UnN xs [] p er ∧ (er == 0) = false := by
  by_cases h : xs.length ≤ 4096
  · have h2 : (deu xs).2.2 = false := by
      cases q : (deu xs).2.2
      · rfl
      · exact absurd ⟨h, q⟩ hk
    exact ⟨_, _, .inr (.inr ⟨h, h2, rfl, rfl, rfl⟩), rfl⟩
  · exact ⟨_, _, .inl ⟨by omega, rfl, rfl, rfl⟩, rfl⟩
set_option maxHeartbeats 4000000 in
theorem back_w (A C : Option Addr) (xs us : List Nat) (n c m d : Nat) (w : World) (hL : Lai w) (ha : Ar .u8 256 w A xs n c) (hb : Ar .u16 65536 w C us m d) :
    Calls Tryd.prog 4 #[.slice A n c, .slice C m d] w fun e w' => e = .returned (.bool true) ∧ Plus w w' := by
  by_cases hf : n ≤ 5000 ∧ m ≤ 5000
  · obtain ⟨f1, f2⟩ := hf
    have hu : (enc us = none) ∨ (∃ G, enc us = some G ∧ 4096 < G.length) ∨ (∃ G, enc us = some G ∧ G.length ≤ 4096 ∧ UnN G us 0 0) := by
      cases q : enc us with
      | none => exact .inl rfl
      | some G =>
        obtain ⟨_, r2, _⟩ := deu_enc us.length us (Nat.le_refl _) hb.bd G q
        by_cases hg : G.length ≤ 4096
        · exact .inr (.inr ⟨G, rfl, hg, .inr (.inl ⟨hg, by rw [r2], by rw [r2], rfl, rfl⟩)⟩)
        · exact .inr (.inl ⟨G, rfl, by omega⟩)
    by_cases hk : xs.length ≤ 4096 ∧ (deu xs).2.2 = true
    · have e1 := unN_ok hk.1 hk.2
      have e2 : ByN (deu xs).1 xs 0 := .inl ⟨enc_deu ha.bd hk.2, rfl⟩
      have l1 := deu_len (l := xs) ha.bd
      have l2 := (deu_le xs ha.bd).1
      have hl : decide (n < (deu xs).1.length) = false := by have := ha.len; simp; omega
      have hl1 : (deu xs).1.length ≤ 5000 := by omega
      rcases hu with h3 | ⟨G, h3, hg⟩ | ⟨G, h3, hg, h4⟩
      · exact back_y_none A C xs us n c m d w (Lib.hid hL) (Lib.hid ha) (Lib.hid hb) f1 f2 _ (Lib.hid e1) (Lib.hid e2) hl1 hl (Lib.hid (.inr ⟨h3, rfl, rfl⟩))
      · exact back_y_long A C xs us n c m d w (Lib.hid hL) (Lib.hid ha) (Lib.hid hb) f1 f2 _ (Lib.hid e1) (Lib.hid e2) hl1 hl G (Lib.hid (.inl ⟨h3, rfl⟩)) (by simp; omega)
      · exact back_y_short A C xs us n c m d w (Lib.hid hL) (Lib.hid ha) (Lib.hid hb) f1 f2 _ (Lib.hid e1) (Lib.hid e2) hl1 hl G (Lib.hid (.inl ⟨h3, rfl⟩)) (by simp; omega) (Lib.hid h4)
    · obtain ⟨p, er, e1, he⟩ := unN_no xs hk
      rcases hu with h3 | ⟨G, h3, hg⟩ | ⟨G, h3, hg, h4⟩
      · exact back_n_none A C xs us n c m d w (Lib.hid hL) (Lib.hid ha) (Lib.hid hb) f1 f2 p er (Lib.hid e1) he (Lib.hid (.inr ⟨h3, rfl, rfl⟩))
      · exact back_n_long A C xs us n c m d w (Lib.hid hL) (Lib.hid ha) (Lib.hid hb) f1 f2 p er (Lib.hid e1) he G (Lib.hid (.inl ⟨h3, rfl⟩)) (by simp; omega)
      · exact back_n_short A C xs us n c m d w (Lib.hid hL) (Lib.hid ha) (Lib.hid hb) f1 f2 p er (Lib.hid e1) he G (Lib.hid (.inl ⟨h3, rfl⟩)) (by simp; omega) (Lib.hid h4)
  · exact back_few A C n c m d w (Lib.hid hL) hf
end Go.Proofs.YtlbjjkiflcjkgaaDoor
