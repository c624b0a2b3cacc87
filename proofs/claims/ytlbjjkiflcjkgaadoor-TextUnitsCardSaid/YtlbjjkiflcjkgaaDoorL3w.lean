/- The walk of TextUnits. -/
import Derived.Test.YtlbjjkiflcjkgaaDoorS6
namespace Go.Proofs.YtlbjjkiflcjkgaaDoor
open Go.RowKit


theorem copyBytes_n {A : Option Addr} {xs : List Nat} {n c : Nat} (w : World) (h : Ar .u8 256 w A xs n c) (hl : n ≤ 1048576) : Calls Tryd.prog 13 #[.slice A n c] w fun e w' => ∃ (C : Option Addr) (d : Nat), e = .returned (.slice C n d) ∧ Ar .u8 256 w' C xs n d ∧ Plus w w' := by
  refine (copyBytes_c A xs n c w h hl).mono ?_
  rintro e w' ⟨v, rfl, ho, hp⟩
  obtain ⟨C, d, rfl, q1, q2, q3⟩ := rd_of_own ho
  exact ⟨C, d, by rw [h.len], ⟨q3, h.len, by rw [h.len]; exact q1, q2, h.bd⟩, hp⟩
theorem copyUnits_n {A : Option Addr} {xs : List Nat} {n c : Nat} (w : World) (h : Ar .u16 65536 w A xs n c) (hl : n ≤ 1048576) : Calls Tryd.prog 14 #[.slice A n c] w fun e w' => ∃ (C : Option Addr) (d : Nat), e = .returned (.slice C n d) ∧ Ar .u16 65536 w' C xs n d ∧ Plus w w' := by
  refine (copyUnits_c A xs n c w h hl).mono ?_
  rintro e w' ⟨v, rfl, ho, hp⟩
  obtain ⟨C, d, rfl, q1, q2, q3⟩ := rd_of_own ho
  exact ⟨C, d, by rw [h.len], ⟨q3, h.len, by rw [h.len]; exact q1, q2, h.bd⟩, hp⟩
set_option maxRecDepth 100000 in
set_option maxHeartbeats 16000000 in
theorem units_law (A C : Option Addr) (xs us : List Nat) (n c m d : Nat) (w : World) (hL : Hid (Lai w)) (ha : Hid (Ar .u8 256 w A xs n c)) (hb : Hid (Ar .u16 65536 w C us m d)) (f1 : n ≤ 5000) (f2 : m ≤ 5000) (L G : List Nat) (p er er2 : Int) (h1 : Hid (UnN xs L p er)) (h2 : Hid (ByN us G er2)) : Calls Tryd.prog 3 #[.slice A n c, .slice C m d] w fun e w' => e = .returned (.bool true) ∧ Plus w w' := by
  go_enter Tryd.func3, Tryd.ntmps3
  go_wp2_with fail
  refine (first_c _ (hL.out.plus (by repeat' (first | exact Plus.refl _ | refine Plus.alloc ?_ _ | refine Plus.plus ?_ _ | refine Plus.drew ?_ | refine Plus.drewN ?_ _)))).mono ?_
  rintro e w1 ⟨rfl, ⟨y0, rfl⟩⟩
  go_wp2_with fail
  refine (copyBytes_n _ (ha.out.plus (by repeat' (first | exact Plus.refl _ | refine Plus.alloc ?_ _ | refine Plus.plus ?_ _ | refine Plus.drew ?_ | refine Plus.drewN ?_ _))) (by omega)).mono ?_
  rintro e w1 ⟨C1, d1, rfl, a1, ⟨x1, rfl⟩⟩
  replace a1 := Lib.hid a1
  go_wp2_with fail
  refine (copyUnits_n _ (hb.out.plus (by repeat' (first | exact Plus.refl _ | refine Plus.alloc ?_ _ | refine Plus.plus ?_ _ | refine Plus.drew ?_ | refine Plus.drewN ?_ _))) (by omega)).mono ?_
  rintro e w1 ⟨C2, d2, rfl, a2, ⟨x2, rfl⟩⟩
  replace a2 := Lib.hid a2
  go_wp2_with fail
  refine (units_n h1 _ (hL.out.plus (by repeat' (first | exact Plus.refl _ | refine Plus.alloc ?_ _ | refine Plus.plus ?_ _ | refine Plus.drew ?_ | refine Plus.drewN ?_ _))) (a1.out.plus (by repeat' (first | exact Plus.refl _ | refine Plus.alloc ?_ _ | refine Plus.plus ?_ _ | refine Plus.drew ?_ | refine Plus.drewN ?_ _)))).mono ?_
  rintro e w1 ⟨C3, d3, rfl, a3, ⟨x3, rfl⟩⟩
  replace a3 := Lib.hid a3
  go_wp2_with fail
  refine (refUnits3_n h1 _ (ha.out.plus (by repeat' (first | exact Plus.refl _ | refine Plus.alloc ?_ _ | refine Plus.plus ?_ _ | refine Plus.drew ?_ | refine Plus.drewN ?_ _)))).mono ?_
  rintro e w1 ⟨C4, d4, rfl, a4, ⟨x4, rfl⟩⟩
  replace a4 := Lib.hid a4
  go_wp2_with fail
  refine (bytes_n h2 _ (a2.out.plus (by repeat' (first | exact Plus.refl _ | refine Plus.alloc ?_ _ | refine Plus.plus ?_ _ | refine Plus.drew ?_ | refine Plus.drewN ?_ _))) (by omega)).mono ?_
  rintro e w1 ⟨C5, d5, rfl, a5, ⟨x5, rfl⟩⟩
  replace a5 := Lib.hid a5
  go_wp2_with fail
  refine (refBytes3_n h2 _ (hb.out.plus (by repeat' (first | exact Plus.refl _ | refine Plus.alloc ?_ _ | refine Plus.plus ?_ _ | refine Plus.drew ?_ | refine Plus.drewN ?_ _))) (by omega)).mono ?_
  rintro e w1 ⟨C6, d6, rfl, a6, ⟨x6, rfl⟩⟩
  replace a6 := Lib.hid a6
  go_wp2_with fail
  refine (first_c _ (hL.out.plus (by repeat' (first | exact Plus.refl _ | refine Plus.alloc ?_ _ | refine Plus.plus ?_ _ | refine Plus.drew ?_ | refine Plus.drewN ?_ _)))).mono ?_
  rintro e w1 ⟨rfl, ⟨y1, rfl⟩⟩
  go_wp2_with fail
  refine (refUnits_n (b := true) (Lib.hid (by simp)) _ (a3.out.plus (by repeat' (first | exact Plus.refl _ | refine Plus.alloc ?_ _ | refine Plus.plus ?_ _ | refine Plus.drew ?_ | refine Plus.drewN ?_ _))) (a4.out.plus (by repeat' (first | exact Plus.refl _ | refine Plus.alloc ?_ _ | refine Plus.plus ?_ _ | refine Plus.drew ?_ | refine Plus.drewN ?_ _)))).mono ?_
  rintro e w1 ⟨rfl, ⟨y2, rfl⟩⟩
  go_wp2_with fail
  refine (refBytes_n (b := true) (Lib.hid (by simp)) _ (a5.out.plus (by repeat' (first | exact Plus.refl _ | refine Plus.alloc ?_ _ | refine Plus.plus ?_ _ | refine Plus.drew ?_ | refine Plus.drewN ?_ _))) (a6.out.plus (by repeat' (first | exact Plus.refl _ | refine Plus.alloc ?_ _ | refine Plus.plus ?_ _ | refine Plus.drew ?_ | refine Plus.drewN ?_ _)))).mono ?_
  rintro e w1 ⟨rfl, rfl⟩
  go_wp2_with fail
  refine (refBytes_n (b := true) (Lib.hid (by simp)) _ (a1.out.plus (by repeat' (first | exact Plus.refl _ | refine Plus.alloc ?_ _ | refine Plus.plus ?_ _ | refine Plus.drew ?_ | refine Plus.drewN ?_ _))) (ha.out.plus (by repeat' (first | exact Plus.refl _ | refine Plus.alloc ?_ _ | refine Plus.plus ?_ _ | refine Plus.drew ?_ | refine Plus.drewN ?_ _)))).mono ?_
  rintro e w1 ⟨rfl, rfl⟩
  go_wp2_with fail
  refine (refUnits_n (b := true) (Lib.hid (by simp)) _ (a2.out.plus (by repeat' (first | exact Plus.refl _ | refine Plus.alloc ?_ _ | refine Plus.plus ?_ _ | refine Plus.drew ?_ | refine Plus.drewN ?_ _))) (hb.out.plus (by repeat' (first | exact Plus.refl _ | refine Plus.alloc ?_ _ | refine Plus.plus ?_ _ | refine Plus.drew ?_ | refine Plus.drewN ?_ _)))).mono ?_
  rintro e w1 ⟨rfl, ⟨y3, rfl⟩⟩
  go_wp2_with fail
  go_returns
  exact ⟨rfl, (by repeat' (first | exact Plus.refl _ | refine Plus.alloc ?_ _ | refine Plus.plus ?_ _ | refine Plus.drew ?_ | refine Plus.drewN ?_ _))⟩

set_option maxRecDepth 100000 in
set_option maxHeartbeats 4000000 in
theorem unitsl_few (A C : Option Addr) (n c m d : Nat) (w : World) (hL : Hid (Lai w)) (hf : ¬ (n ≤ 5000 ∧ m ≤ 5000)) : Calls Tryd.prog 3 #[.slice A n c, .slice C m d] w fun e w' => e = .returned (.bool true) ∧ Plus w w' := by
  have h3 : 5000 < n ∨ n ≤ 5000 ∧ 5000 < m := by omega
  clear hf
  rcases h3 with f1 | ⟨f1, f2⟩
  all_goals
    go_enter Tryd.func3, Tryd.ntmps3
    go_wp2_with fail
    refine (first_c _ (hL.out.plus (by repeat' (first | exact Plus.refl _ | refine Plus.alloc ?_ _ | refine Plus.plus ?_ _ | refine Plus.drew ?_ | refine Plus.drewN ?_ _)))).mono ?_
    rintro e w1 ⟨rfl, ⟨y0, rfl⟩⟩
    go_wp2_with fail
    refine (first_c _ (hL.out.plus (by repeat' (first | exact Plus.refl _ | refine Plus.alloc ?_ _ | refine Plus.plus ?_ _ | refine Plus.drew ?_ | refine Plus.drewN ?_ _)))).mono ?_
    rintro e w1 ⟨rfl, ⟨y1, rfl⟩⟩
    go_wp2_with fail
    go_returns
    exact ⟨rfl, (by repeat' (first | exact Plus.refl _ | refine Plus.alloc ?_ _ | refine Plus.plus ?_ _ | refine Plus.drew ?_ | refine Plus.drewN ?_ _))⟩

set_option maxHeartbeats 4000000 in
theorem unitsl_w (A C : Option Addr) (xs us : List Nat) (n c m d : Nat) (w : World) (hL : Lai w) (ha : Ar .u8 256 w A xs n c) (hb : Ar .u16 65536 w C us m d) :
    Calls Tryd.prog 3 #[.slice A n c, .slice C m d] w fun e w' => e = .returned (.bool true) ∧ Plus w w' := by
  by_cases hf : n ≤ 5000 ∧ m ≤ 5000
  · obtain ⟨f1, f2⟩ := hf
    have e1 : ∃ L p er, UnN xs L p er := by
      by_cases h : xs.length ≤ 4096
      · cases q : (deu xs).2.2
        · exact ⟨_, _, _, .inr (.inr ⟨h, q, rfl, rfl, rfl⟩)⟩
        · exact ⟨_, _, _, .inr (.inl ⟨h, q, rfl, rfl, rfl⟩)⟩
      · exact ⟨_, _, _, .inl ⟨by omega, rfl, rfl, rfl⟩⟩
    have e2 : ∃ G er2, ByN us G er2 := by
      cases q : enc us with
      | none => exact ⟨_, _, .inr ⟨q, rfl, rfl⟩⟩
      | some G => exact ⟨_, _, .inl ⟨q, rfl⟩⟩
    obtain ⟨L, p, er, e1⟩ := e1
    obtain ⟨G, er2, e2⟩ := e2
    exact units_law A C xs us n c m d w (Lib.hid hL) (Lib.hid ha) (Lib.hid hb) f1 f2 L G p er er2 (Lib.hid e1) (Lib.hid e2)
  · exact unitsl_few A C n c m d w (Lib.hid hL) hf
end Go.Proofs.YtlbjjkiflcjkgaaDoor
