/- Contracts: conv.isNothing, withoutBoolean, isWorth, reads. -/
import Derived.Test.YtmlfcmmgoiigkaaGreatDoorV10
namespace Go.Proofs.YtmlfcmmgoiigkaaGreatDoor
open Go.RowKit

set_option maxRecDepth 100000 in
set_option maxHeartbeats 4000000 in
theorem noth_0 {p q : Int} {g : Bool} {A C : Option Addr} {n c m d : Nat} {r : Int} (w : World) : Calls Tryz.prog 73 #[Value.agg #[.int .i64 0, .int .i64 p, .int .i64 q, .bool g, .slice A n c, .slice C m d, .int .i64 r]] w fun e w' => e = .returned (.bool true) ∧ Plus w w' := by
  go_enter Tryz.func73, Tryz.ntmps73
  go_wp2_with fail
  go_returns
  exact ⟨rfl, (by repeat' (first | exact Plus.refl _ | refine Plus.alloc ?_ _ | refine Plus.plus ?_ _ | refine Plus.drew ?_ | refine Plus.drewN ?_ _))⟩
set_option maxRecDepth 100000 in
set_option maxHeartbeats 4000000 in
theorem noth_1 {p q : Int} {g : Bool} {A C : Option Addr} {n c m d : Nat} {r : Int} (w : World) : Calls Tryz.prog 73 #[Value.agg #[.int .i64 1, .int .i64 p, .int .i64 q, .bool g, .slice A n c, .slice C m d, .int .i64 r]] w fun e w' => e = .returned (.bool true) ∧ Plus w w' := by
  go_enter Tryz.func73, Tryz.ntmps73
  go_wp2_with fail
  go_returns
  exact ⟨rfl, (by repeat' (first | exact Plus.refl _ | refine Plus.alloc ?_ _ | refine Plus.plus ?_ _ | refine Plus.drew ?_ | refine Plus.drewN ?_ _))⟩
set_option maxRecDepth 100000 in
set_option maxHeartbeats 4000000 in
theorem noth_o {k p q : Int} {g : Bool} {A C : Option Addr} {n c m d : Nat} {r : Int} (w : World) (b0 : (k == 0) = false) (b1 : (k == 1) = false) : Calls Tryz.prog 73 #[Value.agg #[.int .i64 k, .int .i64 p, .int .i64 q, .bool g, .slice A n c, .slice C m d, .int .i64 r]] w fun e w' => e = .returned (.bool false) ∧ Plus w w' := by
  go_enter Tryz.func73, Tryz.ntmps73
  go_wp2_with fail
  go_returns
  exact ⟨rfl, (by repeat' (first | exact Plus.refl _ | refine Plus.alloc ?_ _ | refine Plus.plus ?_ _ | refine Plus.drew ?_ | refine Plus.drewN ?_ _))⟩
def nothB (k : Int) : Bool := decide (k = 0 ∨ k = 1)
theorem noth_v {k p q : Int} {g : Bool} {A C : Option Addr} {n c m d : Nat} {r : Int} {z : Bool} (hz : Hid (nothB k = z)) (w : World) : Calls Tryz.prog 73 #[Value.agg #[.int .i64 k, .int .i64 p, .int .i64 q, .bool g, .slice A n c, .slice C m d, .int .i64 r]] w fun e w' => e = .returned (.bool z) ∧ Plus w w' := by
  obtain rfl := hz.out
  by_cases h0 : k = 0
  · subst h0
    exact noth_0 w
  by_cases h1 : k = 1
  · subst h1
    exact noth_1 w
  · rw [show nothB k = false by simp [nothB, h0, h1]]
    exact noth_o w (beq_f h0) (beq_f h1)
theorem cnum_n {p q : Int} (w : World) : Calls Tryz.prog 38 #[.agg #[.int .i64 p, .int .i64 q]] w fun e w' => e = .returned (Value.agg #[.int .i64 3, .int .i64 p, .int .i64 q, .bool false, .slice none 0 0, .slice none 0 0, .int .i64 0]) ∧ Plus w w' := cnum_c p q w
set_option maxRecDepth 100000 in
set_option maxHeartbeats 4000000 in
theorem wob_b {p q : Int} {g : Bool} {A C : Option Addr} {n c m d : Nat} {r : Int} (w : World) : Calls Tryz.prog 74 #[Value.agg #[.int .i64 2, .int .i64 p, .int .i64 q, .bool g, .slice A n c, .slice C m d, .int .i64 r]] w fun e w' => e = .returned (Value.agg #[.int .i64 3, .int .i64 0, .int .i64 r, .bool false, .slice none 0 0, .slice none 0 0, .int .i64 0]) ∧ Plus w w' := by
  go_enter Tryz.func74, Tryz.ntmps74
  go_wp2_with (go_at_call 38; (with_reducible refine (cnum_n _).mono ?_); rintro e w2 ⟨rfl, ⟨x2, rfl⟩⟩)
  go_returns
  exact ⟨rfl, (by repeat' (first | exact Plus.refl _ | refine Plus.alloc ?_ _ | refine Plus.plus ?_ _ | refine Plus.drew ?_ | refine Plus.drewN ?_ _))⟩
set_option maxRecDepth 100000 in
set_option maxHeartbeats 4000000 in
theorem wob_o {k p q : Int} {g : Bool} {A C : Option Addr} {n c m d : Nat} {r : Int} (w : World) (b0 : (k == 2) = false) : Calls Tryz.prog 74 #[Value.agg #[.int .i64 k, .int .i64 p, .int .i64 q, .bool g, .slice A n c, .slice C m d, .int .i64 r]] w fun e w' => e = .returned (Value.agg #[.int .i64 k, .int .i64 p, .int .i64 q, .bool g, .slice A n c, .slice C m d, .int .i64 r]) ∧ Plus w w' := by
  go_enter Tryz.func74, Tryz.ntmps74
  go_wp2_with fail
  go_returns
  exact ⟨rfl, (by repeat' (first | exact Plus.refl _ | refine Plus.alloc ?_ _ | refine Plus.plus ?_ _ | refine Plus.drew ?_ | refine Plus.drewN ?_ _))⟩
theorem bof_v {z : Int} {r : Int} {pb : Bool} {us : List Nat} (hr : Hid (Bg.OfN z r pb us)) (w : World) : Calls Tryz.prog 55 #[.int .i64 z] w fun e w' => ∃ (A1 : Option Addr) (c1 : Nat), e = .returned (.agg #[.bool pb, .slice A1 us.length c1]) ∧ Bg.Arg w' A1 us us.length c1 ∧ Plus w w' := Bg.of_n hr w
set_option maxRecDepth 100000 in
set_option maxHeartbeats 4000000 in
theorem worth_0 {q : Int} {g pb z : Bool} {A : Option Addr} {xs us : List Nat} {n c : Nat} {r b : Int} (hO : Hid (Bg.OfN q r pb us)) (hP : Hid (Bg.bigI pb us = r)) (hB : Hid (Bg.bigI g xs = b)) (hz : Hid (decide (r = b) = z)) (w : World) (hb : Hid (Bg.Arg w A xs n c)) : Calls Tryz.prog 75 #[.agg #[.int .i64 0, .int .i64 q], .agg #[.bool g, .slice A n c]] w fun e w' => e = .returned (.bool z) ∧ Plus w w' := by
  go_enter Tryz.func75, Tryz.ntmps75
  go_wp2_with fail
  go_region_with (first | (go_at_call 55; (with_reducible refine (bof_v hO _).mono ?_); rintro e w1 ⟨A1, c1, rfl, ha1, ⟨x1, rfl⟩⟩; have HA1 := Lib.hid ha1; clear ha1) | (go_at_call 71; (with_reducible refine (bsame_v hP hB hz _ (by have q := HA1.out; (try simp only [plus_drew] at q ⊢); exact q) (hb.out.plus (by repeat' (first | exact Plus.refl _ | refine Plus.alloc ?_ _ | refine Plus.plus ?_ _ | refine Plus.drew ?_ | refine Plus.drewN ?_ _)))).mono ?_); rintro e w2 ⟨rfl, ⟨x2, rfl⟩⟩))
  all_goals go_wp2_with fail
  all_goals go_returns
  all_goals exact ⟨rfl, (by repeat' (first | exact Plus.refl _ | refine Plus.alloc ?_ _ | refine Plus.plus ?_ _ | refine Plus.drew ?_ | refine Plus.drewN ?_ _))⟩
set_option maxRecDepth 100000 in
set_option maxHeartbeats 4000000 in
theorem worth_1 {q : Int} {g pb z : Bool} {A : Option Addr} {xs us : List Nat} {n c : Nat} {r b : Int} (hO : Hid (Bg.OfN q r pb us)) (hP : Hid (Bg.bigI pb us = r)) (hB : Hid (Bg.bigI g xs = b)) (hz : Hid (decide (r = b) = z)) (w : World) (hb : Hid (Bg.Arg w A xs n c)) : Calls Tryz.prog 75 #[.agg #[.int .i64 1, .int .i64 q], .agg #[.bool g, .slice A n c]] w fun e w' => e = .returned (.bool z) ∧ Plus w w' := by
  go_enter Tryz.func75, Tryz.ntmps75
  go_wp2_with fail
  go_region_with (first | (go_at_call 55; (with_reducible refine (bof_v hO _).mono ?_); rintro e w1 ⟨A1, c1, rfl, ha1, ⟨x1, rfl⟩⟩; have HA1 := Lib.hid ha1; clear ha1) | (go_at_call 71; (with_reducible refine (bsame_v hP hB hz _ (by have q := HA1.out; (try simp only [plus_drew] at q ⊢); exact q) (hb.out.plus (by repeat' (first | exact Plus.refl _ | refine Plus.alloc ?_ _ | refine Plus.plus ?_ _ | refine Plus.drew ?_ | refine Plus.drewN ?_ _)))).mono ?_); rintro e w2 ⟨rfl, ⟨x2, rfl⟩⟩))
  all_goals go_wp2_with fail
  all_goals go_returns
  all_goals exact ⟨rfl, (by repeat' (first | exact Plus.refl _ | refine Plus.alloc ?_ _ | refine Plus.plus ?_ _ | refine Plus.drew ?_ | refine Plus.drewN ?_ _))⟩
set_option maxRecDepth 100000 in
set_option maxHeartbeats 4000000 in
theorem worth_o {p q : Int} {g : Bool} {A : Option Addr} {n c : Nat} (w : World) (b0 : (p == 0) = false) (b1 : (p == 1) = false) : Calls Tryz.prog 75 #[.agg #[.int .i64 p, .int .i64 q], .agg #[.bool g, .slice A n c]] w fun e w' => e = .returned (.bool false) ∧ Plus w w' := by
  go_enter Tryz.func75, Tryz.ntmps75
  go_wp2_with fail
  go_returns
  exact ⟨rfl, (by repeat' (first | exact Plus.refl _ | refine Plus.alloc ?_ _ | refine Plus.plus ?_ _ | refine Plus.drew ?_ | refine Plus.drewN ?_ _))⟩
def worthB (p q b : Int) : Bool := (p == 0 || p == 1) && decide (q = b)
theorem worth_v {p q : Int} {g z : Bool} {A : Option Addr} {xs : List Nat} {n c : Nat} {b : Int} (hB : Hid (Bg.bigI g xs = b)) (hz : Hid (worthB p q b = z)) (h1 : -9007199254740991 ≤ q) (h2 : q ≤ 9007199254740991) (w : World) (hb : Bg.Arg w A xs n c) :
    Calls Tryz.prog 75 #[.agg #[.int .i64 p, .int .i64 q], .agg #[.bool g, .slice A n c]] w fun e w' => e = .returned (.bool z) ∧ Plus w w' := by
  obtain rfl := hz.out
  have hlt : q.natAbs < Bg.B ^ 8 := by
    have : Bg.B ^ 8 = 115792089237316195423570985008687907853269984665640564039457584007913129639936 := by rw [Bg.B_eq]
    omega
  have hN : Bg.Nm q (decide (q < 0)) (Bg.dig q.natAbs) := Bg.Nm.mk' hlt
  have hO : Bg.OfN q q (decide (q < 0)) (Bg.dig q.natAbs) := ⟨hN, rfl, by omega, by omega⟩
  by_cases p0 : p = 0
  · subst p0
    exact worth_0 (Lib.hid hO) (Lib.hid hN.val) hB (Lib.hid (by simp [worthB])) w (Lib.hid hb)
  by_cases p1 : p = 1
  · subst p1
    exact worth_1 (Lib.hid hO) (Lib.hid hN.val) hB (Lib.hid (by simp [worthB])) w (Lib.hid hb)
  · rw [show worthB p q b = false by simp [worthB, p0, p1]]
    exact worth_o w (beq_f p0) (beq_f p1)
set_option maxRecDepth 100000 in
set_option maxHeartbeats 4000000 in
theorem reads_s {p q a b s : Int} {C : Option Addr} {us : List Nat} {m d : Nat} (hu : Hid (nofU us = ⟨a, b, s⟩)) (hm : m ≤ 4096) (w : World) (hL : Hid (Lai w)) (hs : Hid (Ar .u16 65536 w C us m d)) (b0 : (s == 0) = false) : Calls Tryz.prog 76 #[.slice C m d, .agg #[.int .i64 p, .int .i64 q]] w fun e w' => e = .returned (.tuple #[.bool false, .int .i64 s]) ∧ Plus w w' := by
  go_enter Tryz.func76, Tryz.ntmps76
  go_wp2_with (go_at_call 50; (with_reducible refine (numberOf_v hu _ (hL.out.plus (by repeat' (first | exact Plus.refl _ | refine Plus.alloc ?_ _ | refine Plus.plus ?_ _ | refine Plus.drew ?_ | refine Plus.drewN ?_ _))) (hs.out.plus (by repeat' (first | exact Plus.refl _ | refine Plus.alloc ?_ _ | refine Plus.plus ?_ _ | refine Plus.drew ?_ | refine Plus.drewN ?_ _))) (by omega)).mono ?_); rintro e w1 ⟨rfl, ⟨x1, rfl⟩⟩)
  go_returns
  exact ⟨rfl, (by repeat' (first | exact Plus.refl _ | refine Plus.alloc ?_ _ | refine Plus.plus ?_ _ | refine Plus.drew ?_ | refine Plus.drewN ?_ _))⟩
set_option maxRecDepth 100000 in
set_option maxHeartbeats 4000000 in
theorem reads_y {p q a b : Int} {z : Bool} {C : Option Addr} {us : List Nat} {m d : Nat} (hu : Hid (nofU us = ⟨a, b, 0⟩)) (hm : m ≤ 4096) (w : World) (hL : Hid (Lai w)) (hs : Hid (Ar .u16 65536 w C us m d)) (hq : Hid (equalR p q a b = z)) : Calls Tryz.prog 76 #[.slice C m d, .agg #[.int .i64 p, .int .i64 q]] w fun e w' => e = .returned (.tuple #[.bool z, .int .i64 0]) ∧ Plus w w' := by
  go_enter Tryz.func76, Tryz.ntmps76
  go_wp2_with (first | (go_at_call 50; (with_reducible refine (numberOf_v hu _ (hL.out.plus (by repeat' (first | exact Plus.refl _ | refine Plus.alloc ?_ _ | refine Plus.plus ?_ _ | refine Plus.drew ?_ | refine Plus.drewN ?_ _))) (hs.out.plus (by repeat' (first | exact Plus.refl _ | refine Plus.alloc ?_ _ | refine Plus.plus ?_ _ | refine Plus.drew ?_ | refine Plus.drewN ?_ _))) (by omega)).mono ?_); rintro e w1 ⟨rfl, ⟨x1, rfl⟩⟩) | (go_at_call 78; (with_reducible refine (nequal_v hq _).mono ?_); rintro e w2 ⟨rfl, ⟨x2, rfl⟩⟩))
  go_returns
  exact ⟨rfl, (by repeat' (first | exact Plus.refl _ | refine Plus.alloc ?_ _ | refine Plus.plus ?_ _ | refine Plus.drew ?_ | refine Plus.drewN ?_ _))⟩
/-- A truth and a signal. -/
structure B2 where
  b : Bool
  s : Int
def readsU (p q : Int) (us : List Nat) : B2 := ⟨(nofU us).s == 0 && equalR p q (nofU us).k (nofU us).n, (nofU us).s⟩
theorem reads_v {p q s : Int} {z : Bool} {C : Option Addr} {us : List Nat} {m d : Nat} (hr : Hid (readsU p q us = ⟨z, s⟩)) (hm : m ≤ 4096) (w : World) (hL : Lai w) (hs : Ar .u16 65536 w C us m d) :
    Calls Tryz.prog 76 #[.slice C m d, .agg #[.int .i64 p, .int .i64 q]] w fun e w' => e = .returned (.tuple #[.bool z, .int .i64 s]) ∧ Plus w w' := by
  obtain ⟨a, b, z', hu⟩ : ∃ a b z', nofU us = ⟨a, b, z'⟩ := ⟨_, _, _, rfl⟩
  have q := hr.out
  unfold readsU at q
  rw [hu] at q
  simp only [B2.mk.injEq] at q
  obtain ⟨rfl, rfl⟩ := q
  by_cases h0 : z' = 0
  · subst h0
    exact reads_y (Lib.hid hu) hm w (Lib.hid hL) (Lib.hid hs) (Lib.hid (by simp))
  · rw [beq_f h0, Bool.false_and]
    exact reads_s (Lib.hid hu) hm w (Lib.hid hL) (Lib.hid hs) (beq_f h0)
theorem nv_num {p q : Int} (w : World) (h : IsV p q) : NV w (Value.agg #[.int .i64 3, .int .i64 p, .int .i64 q, .bool false, .slice none 0 0, .slice none 0 0, .int .i64 0]) (.num p q) := ⟨none, none, 0, 0, rfl, by omega, by omega, h⟩
theorem isV_bd {p q : Int} (h : IsV p q) : -9007199254740991 ≤ q ∧ q ≤ 9007199254740991 := by
  rcases h with ⟨_, h1, h2⟩ | ⟨_, h⟩ | ⟨_, h⟩ | ⟨_, h⟩ | ⟨_, h⟩ <;> omega
end Go.Proofs.YtmlfcmmgoiigkaaGreatDoor
