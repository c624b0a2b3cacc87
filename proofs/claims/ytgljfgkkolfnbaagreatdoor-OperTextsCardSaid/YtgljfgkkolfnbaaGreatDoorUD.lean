/- Contracts: conv.isNothing, withoutBoolean, isWorth, reads. The chapter's examples. Contract: Few; what strict equality keeps. A slice stands though a box turns; unsigned, hasOnly, bigOfDigits, cloned. -/
import Derived.Test.YtgljfgkkolfnbaaGreatDoorV10z
namespace Go.Proofs.YtgljfgkkolfnbaaGreatDoor
open Go.RowKit

set_option maxRecDepth 100000 in
set_option maxHeartbeats 4000000 in
theorem noth_0 {p q : Int} {g : Bool} {A C : Option Addr} {n c m d : Nat} {r : Int} (w : World) : Calls Tryz.prog 178 #[Value.agg #[.int .i64 0, .int .i64 p, .int .i64 q, .bool g, .slice A n c, .slice C m d, .int .i64 r]] w fun e w' => e = .returned (.bool true) ∧ Plus w w' := by
  go_enter Tryz.func178, Tryz.ntmps178
  go_wp2_with fail
  go_returns
  exact ⟨rfl, (by repeat' (first | exact Plus.refl _ | refine Plus.alloc ?_ _ | refine Plus.plus ?_ _ | refine Plus.drew ?_ | refine Plus.drewN ?_ _))⟩
set_option maxRecDepth 100000 in
set_option maxHeartbeats 4000000 in
theorem noth_1 {p q : Int} {g : Bool} {A C : Option Addr} {n c m d : Nat} {r : Int} (w : World) : Calls Tryz.prog 178 #[Value.agg #[.int .i64 1, .int .i64 p, .int .i64 q, .bool g, .slice A n c, .slice C m d, .int .i64 r]] w fun e w' => e = .returned (.bool true) ∧ Plus w w' := by
  go_enter Tryz.func178, Tryz.ntmps178
  go_wp2_with fail
  go_returns
  exact ⟨rfl, (by repeat' (first | exact Plus.refl _ | refine Plus.alloc ?_ _ | refine Plus.plus ?_ _ | refine Plus.drew ?_ | refine Plus.drewN ?_ _))⟩
set_option maxRecDepth 100000 in
set_option maxHeartbeats 4000000 in
theorem noth_o {k p q : Int} {g : Bool} {A C : Option Addr} {n c m d : Nat} {r : Int} (w : World) (b0 : (k == 0) = false) (b1 : (k == 1) = false) : Calls Tryz.prog 178 #[Value.agg #[.int .i64 k, .int .i64 p, .int .i64 q, .bool g, .slice A n c, .slice C m d, .int .i64 r]] w fun e w' => e = .returned (.bool false) ∧ Plus w w' := by
  go_enter Tryz.func178, Tryz.ntmps178
  go_wp2_with fail
  go_returns
  exact ⟨rfl, (by repeat' (first | exact Plus.refl _ | refine Plus.alloc ?_ _ | refine Plus.plus ?_ _ | refine Plus.drew ?_ | refine Plus.drewN ?_ _))⟩
def nothB (k : Int) : Bool := decide (k = 0 ∨ k = 1)
theorem noth_v {k p q : Int} {g : Bool} {A C : Option Addr} {n c m d : Nat} {r : Int} {z : Bool} (hz : Hid (nothB k = z)) (w : World) : Calls Tryz.prog 178 #[Value.agg #[.int .i64 k, .int .i64 p, .int .i64 q, .bool g, .slice A n c, .slice C m d, .int .i64 r]] w fun e w' => e = .returned (.bool z) ∧ Plus w w' := by
  obtain rfl := hz.out
  by_cases h0 : k = 0
  · subst h0
    exact noth_0 w
  by_cases h1 : k = 1
  · subst h1
    exact noth_1 w
  · rw [show nothB k = false by simp [nothB, h0, h1]]
    exact noth_o w (beq_f h0) (beq_f h1)
theorem cnum_n {p q : Int} (w : World) : Calls Tryz.prog 28 #[.agg #[.int .i64 p, .int .i64 q]] w fun e w' => e = .returned (Value.agg #[.int .i64 3, .int .i64 p, .int .i64 q, .bool false, .slice none 0 0, .slice none 0 0, .int .i64 0]) ∧ Plus w w' := cnum_c p q w
set_option maxRecDepth 100000 in
set_option maxHeartbeats 4000000 in
theorem wob_b {p q : Int} {g : Bool} {A C : Option Addr} {n c m d : Nat} {r : Int} (w : World) : Calls Tryz.prog 179 #[Value.agg #[.int .i64 2, .int .i64 p, .int .i64 q, .bool g, .slice A n c, .slice C m d, .int .i64 r]] w fun e w' => e = .returned (Value.agg #[.int .i64 3, .int .i64 0, .int .i64 r, .bool false, .slice none 0 0, .slice none 0 0, .int .i64 0]) ∧ Plus w w' := by
  go_enter Tryz.func179, Tryz.ntmps179
  go_wp2_with (go_at_call 28; (with_reducible refine (cnum_n _).mono ?_); rintro e w2 ⟨rfl, ⟨x2, rfl⟩⟩)
  go_returns
  exact ⟨rfl, (by repeat' (first | exact Plus.refl _ | refine Plus.alloc ?_ _ | refine Plus.plus ?_ _ | refine Plus.drew ?_ | refine Plus.drewN ?_ _))⟩
set_option maxRecDepth 100000 in
set_option maxHeartbeats 4000000 in
theorem wob_o {k p q : Int} {g : Bool} {A C : Option Addr} {n c m d : Nat} {r : Int} (w : World) (b0 : (k == 2) = false) : Calls Tryz.prog 179 #[Value.agg #[.int .i64 k, .int .i64 p, .int .i64 q, .bool g, .slice A n c, .slice C m d, .int .i64 r]] w fun e w' => e = .returned (Value.agg #[.int .i64 k, .int .i64 p, .int .i64 q, .bool g, .slice A n c, .slice C m d, .int .i64 r]) ∧ Plus w w' := by
  go_enter Tryz.func179, Tryz.ntmps179
  go_wp2_with fail
  go_returns
  exact ⟨rfl, (by repeat' (first | exact Plus.refl _ | refine Plus.alloc ?_ _ | refine Plus.plus ?_ _ | refine Plus.drew ?_ | refine Plus.drewN ?_ _))⟩
theorem bof_v {z : Int} {r : Int} {pb : Bool} {us : List Nat} (hr : Hid (Bg.OfN z r pb us)) (w : World) : Calls Tryz.prog 48 #[.int .i64 z] w fun e w' => ∃ (A1 : Option Addr) (c1 : Nat), e = .returned (.agg #[.bool pb, .slice A1 us.length c1]) ∧ Bg.Arg w' A1 us us.length c1 ∧ Plus w w' := Bg.of_n hr w
set_option maxRecDepth 100000 in
set_option maxHeartbeats 4000000 in
theorem worth_0 {q : Int} {g pb z : Bool} {A : Option Addr} {xs us : List Nat} {n c : Nat} {r b : Int} (hO : Hid (Bg.OfN q r pb us)) (hP : Hid (Bg.bigI pb us = r)) (hB : Hid (Bg.bigI g xs = b)) (hz : Hid (decide (r = b) = z)) (w : World) (hb : Hid (Bg.Arg w A xs n c)) : Calls Tryz.prog 180 #[.agg #[.int .i64 0, .int .i64 q], .agg #[.bool g, .slice A n c]] w fun e w' => e = .returned (.bool z) ∧ Plus w w' := by
  go_enter Tryz.func180, Tryz.ntmps180
  go_wp2_with fail
  go_region_with (first | (go_at_call 48; (with_reducible refine (bof_v hO _).mono ?_); rintro e w1 ⟨A1, c1, rfl, ha1, ⟨x1, rfl⟩⟩; have HA1 := Lib.hid ha1; clear ha1) | (go_at_call 71; (with_reducible refine (bsame_v hP hB hz _ (by have q := HA1.out; (try simp only [plus_drew] at q ⊢); exact q) (hb.out.plus (by repeat' (first | exact Plus.refl _ | refine Plus.alloc ?_ _ | refine Plus.plus ?_ _ | refine Plus.drew ?_ | refine Plus.drewN ?_ _)))).mono ?_); rintro e w2 ⟨rfl, ⟨x2, rfl⟩⟩))
  all_goals go_wp2_with fail
  all_goals go_returns
  all_goals exact ⟨rfl, (by repeat' (first | exact Plus.refl _ | refine Plus.alloc ?_ _ | refine Plus.plus ?_ _ | refine Plus.drew ?_ | refine Plus.drewN ?_ _))⟩
set_option maxRecDepth 100000 in
set_option maxHeartbeats 4000000 in
theorem worth_1 {q : Int} {g pb z : Bool} {A : Option Addr} {xs us : List Nat} {n c : Nat} {r b : Int} (hO : Hid (Bg.OfN q r pb us)) (hP : Hid (Bg.bigI pb us = r)) (hB : Hid (Bg.bigI g xs = b)) (hz : Hid (decide (r = b) = z)) (w : World) (hb : Hid (Bg.Arg w A xs n c)) : Calls Tryz.prog 180 #[.agg #[.int .i64 1, .int .i64 q], .agg #[.bool g, .slice A n c]] w fun e w' => e = .returned (.bool z) ∧ Plus w w' := by
  go_enter Tryz.func180, Tryz.ntmps180
  go_wp2_with fail
  go_region_with (first | (go_at_call 48; (with_reducible refine (bof_v hO _).mono ?_); rintro e w1 ⟨A1, c1, rfl, ha1, ⟨x1, rfl⟩⟩; have HA1 := Lib.hid ha1; clear ha1) | (go_at_call 71; (with_reducible refine (bsame_v hP hB hz _ (by have q := HA1.out; (try simp only [plus_drew] at q ⊢); exact q) (hb.out.plus (by repeat' (first | exact Plus.refl _ | refine Plus.alloc ?_ _ | refine Plus.plus ?_ _ | refine Plus.drew ?_ | refine Plus.drewN ?_ _)))).mono ?_); rintro e w2 ⟨rfl, ⟨x2, rfl⟩⟩))
  all_goals go_wp2_with fail
  all_goals go_returns
  all_goals exact ⟨rfl, (by repeat' (first | exact Plus.refl _ | refine Plus.alloc ?_ _ | refine Plus.plus ?_ _ | refine Plus.drew ?_ | refine Plus.drewN ?_ _))⟩
set_option maxRecDepth 100000 in
set_option maxHeartbeats 4000000 in
theorem worth_o {p q : Int} {g : Bool} {A : Option Addr} {n c : Nat} (w : World) (b0 : (p == 0) = false) (b1 : (p == 1) = false) : Calls Tryz.prog 180 #[.agg #[.int .i64 p, .int .i64 q], .agg #[.bool g, .slice A n c]] w fun e w' => e = .returned (.bool false) ∧ Plus w w' := by
  go_enter Tryz.func180, Tryz.ntmps180
  go_wp2_with fail
  go_returns
  exact ⟨rfl, (by repeat' (first | exact Plus.refl _ | refine Plus.alloc ?_ _ | refine Plus.plus ?_ _ | refine Plus.drew ?_ | refine Plus.drewN ?_ _))⟩
def worthB (p q b : Int) : Bool := (p == 0 || p == 1) && decide (q = b)
theorem worth_v {p q : Int} {g z : Bool} {A : Option Addr} {xs : List Nat} {n c : Nat} {b : Int} (hB : Hid (Bg.bigI g xs = b)) (hz : Hid (worthB p q b = z)) (h1 : -9007199254740991 ≤ q) (h2 : q ≤ 9007199254740991) (w : World) (hb : Bg.Arg w A xs n c) :
    Calls Tryz.prog 180 #[.agg #[.int .i64 p, .int .i64 q], .agg #[.bool g, .slice A n c]] w fun e w' => e = .returned (.bool z) ∧ Plus w w' := by
  obtain rfl := hz.out
  have hlt : q.natAbs < Bg.B ^ 8 := by
    have : Bg.B ^ 8 = 115792089237316195423570985008687907853269984665640564039457584007913129639936 := by rw [Bg.B_eq]
    omega
  have hN : Bg.Nm q (decide (q < 0)) (Bg.dig q.natAbs) := Bg.Nm.mk' hlt
  have hO : Bg.OfN q q (decide (q < 0)) (Bg.dig q.natAbs) := ⟨hN, rfl, by omega, by omega⟩
  by_cases p0 : p = 0
  · subst p0
    exact worth_0 (Lib.hid hO) (Lib.hid hN.val) hB (Lib.hid (by simp [worthB])) w (Lib.hid hb)
  by_cases p1 : p = 1
  · subst p1
    exact worth_1 (Lib.hid hO) (Lib.hid hN.val) hB (Lib.hid (by simp [worthB])) w (Lib.hid hb)
  · rw [show worthB p q b = false by simp [worthB, p0, p1]]
    exact worth_o w (beq_f p0) (beq_f p1)
set_option maxRecDepth 100000 in
set_option maxHeartbeats 4000000 in
theorem reads_s {p q a b s : Int} {C : Option Addr} {us : List Nat} {m d : Nat} (hu : Hid (nofU us = ⟨a, b, s⟩)) (hm : m ≤ 4096) (w : World) (hL : Hid (Lai w)) (hs : Hid (Ar .u16 65536 w C us m d)) (b0 : (s == 0) = false) : Calls Tryz.prog 181 #[.slice C m d, .agg #[.int .i64 p, .int .i64 q]] w fun e w' => e = .returned (.tuple #[.bool false, .int .i64 s]) ∧ Plus w w' := by
  go_enter Tryz.func181, Tryz.ntmps181
  go_wp2_with (go_at_call 68; (with_reducible refine (numberOf_v hu _ (hL.out.plus (by repeat' (first | exact Plus.refl _ | refine Plus.alloc ?_ _ | refine Plus.plus ?_ _ | refine Plus.drew ?_ | refine Plus.drewN ?_ _))) (hs.out.plus (by repeat' (first | exact Plus.refl _ | refine Plus.alloc ?_ _ | refine Plus.plus ?_ _ | refine Plus.drew ?_ | refine Plus.drewN ?_ _))) (by omega)).mono ?_); rintro e w1 ⟨rfl, ⟨x1, rfl⟩⟩)
  go_returns
  exact ⟨rfl, (by repeat' (first | exact Plus.refl _ | refine Plus.alloc ?_ _ | refine Plus.plus ?_ _ | refine Plus.drew ?_ | refine Plus.drewN ?_ _))⟩
set_option maxRecDepth 100000 in
set_option maxHeartbeats 4000000 in
theorem reads_y {p q a b : Int} {z : Bool} {C : Option Addr} {us : List Nat} {m d : Nat} (hu : Hid (nofU us = ⟨a, b, 0⟩)) (hm : m ≤ 4096) (w : World) (hL : Hid (Lai w)) (hs : Hid (Ar .u16 65536 w C us m d)) (hq : Hid (equalR p q a b = z)) : Calls Tryz.prog 181 #[.slice C m d, .agg #[.int .i64 p, .int .i64 q]] w fun e w' => e = .returned (.tuple #[.bool z, .int .i64 0]) ∧ Plus w w' := by
  go_enter Tryz.func181, Tryz.ntmps181
  go_wp2_with (first | (go_at_call 68; (with_reducible refine (numberOf_v hu _ (hL.out.plus (by repeat' (first | exact Plus.refl _ | refine Plus.alloc ?_ _ | refine Plus.plus ?_ _ | refine Plus.drew ?_ | refine Plus.drewN ?_ _))) (hs.out.plus (by repeat' (first | exact Plus.refl _ | refine Plus.alloc ?_ _ | refine Plus.plus ?_ _ | refine Plus.drew ?_ | refine Plus.drewN ?_ _))) (by omega)).mono ?_); rintro e w1 ⟨rfl, ⟨x1, rfl⟩⟩) | (go_at_call 65; (with_reducible refine (nequal_v hq _).mono ?_); rintro e w2 ⟨rfl, ⟨x2, rfl⟩⟩))
  go_returns
  exact ⟨rfl, (by repeat' (first | exact Plus.refl _ | refine Plus.alloc ?_ _ | refine Plus.plus ?_ _ | refine Plus.drew ?_ | refine Plus.drewN ?_ _))⟩
/-- A truth and a signal. -/
structure B2 where
  b : Bool
  s : Int
def readsU (p q : Int) (us : List Nat) : B2 := ⟨(nofU us).s == 0 && equalR p q (nofU us).k (nofU us).n, (nofU us).s⟩
theorem reads_v {p q s : Int} {z : Bool} {C : Option Addr} {us : List Nat} {m d : Nat} (hr : Hid (readsU p q us = ⟨z, s⟩)) (hm : m ≤ 4096) (w : World) (hL : Lai w) (hs : Ar .u16 65536 w C us m d) :
    Calls Tryz.prog 181 #[.slice C m d, .agg #[.int .i64 p, .int .i64 q]] w fun e w' => e = .returned (.tuple #[.bool z, .int .i64 s]) ∧ Plus w w' := by
  obtain ⟨a, b, z', hu⟩ : ∃ a b z', nofU us = ⟨a, b, z'⟩ := ⟨_, _, _, rfl⟩
  have q := hr.out
  unfold readsU at q
  rw [hu] at q
  simp only [B2.mk.injEq] at q
  obtain ⟨rfl, rfl⟩ := q
  by_cases h0 : z' = 0
  · subst h0
    exact reads_y (Lib.hid hu) hm w (Lib.hid hL) (Lib.hid hs) (Lib.hid (by simp))
  · rw [beq_f h0, Bool.false_and]
    exact reads_s (Lib.hid hu) hm w (Lib.hid hL) (Lib.hid hs) (beq_f h0)
theorem nv_num {p q : Int} (w : World) (h : IsV p q) : NV w (Value.agg #[.int .i64 3, .int .i64 p, .int .i64 q, .bool false, .slice none 0 0, .slice none 0 0, .int .i64 0]) (.num p q) := ⟨none, none, 0, 0, rfl, by omega, by omega, h⟩
theorem isV_bd {p q : Int} (h : IsV p q) : -9007199254740991 ≤ q ∧ q ≤ 9007199254740991 := by
  rcases h with ⟨_, h1, h2⟩ | ⟨_, h⟩ | ⟨_, h⟩ | ⟨_, h⟩ | ⟨_, h⟩ <;> omega
end Go.Proofs.YtgljfgkkolfnbaaGreatDoor

namespace Go.Proofs.YtgljfgkkolfnbaaGreatDoor
open Go.RowKit

theorem nv_text {D : Option Addr} {us : List Nat} {m k : Nat} {w : World} (h : Ar .u16 65536 w D us m k) (hl : us.length ≤ 4096) : NV w (Value.agg #[.int .i64 5, .int .i64 0, .int .i64 0, .bool false, .slice none 0 0, .slice D m k, .int .i64 0]) (.text us) := ⟨none, D, 0, m, k, rfl, by omega, hl, h⟩
theorem nv_big {D : Option Addr} {z k : Nat} {w : World} (h : Ar .u32 4294967296 w D [z] 1 k) (h0 : z ≠ 0) : NV w (Value.agg #[.int .i64 4, .int .i64 0, .int .i64 0, .bool false, .slice D 1 k, .slice none 0 0, .int .i64 0]) (.big z) :=
  ⟨false, D, none, [z], 1, k, 0, rfl, by omega, by simp [Bg.mayL, Bg.lim, h0], by simp [Bg.bigI, Bg.mayL, Bg.lim, h0, Bg.sgn, Bg.val], arg_ar h (by omega)⟩
theorem nv_tru {w : World} : NV w (Value.agg #[.int .i64 2, .int .i64 0, .int .i64 0, .bool false, .slice none 0 0, .slice none 0 0, .int .i64 1]) (.bool true) := ⟨none, none, 0, 0, rfl, by omega, by omega⟩
theorem nv_null {w : World} : NV w (Value.agg #[.int .i64 1, .int .i64 0, .int .i64 0, .bool false, .slice none 0 0, .slice none 0 0, .int .i64 0]) .null := ⟨none, none, 0, 0, rfl, by omega, by omega⟩
theorem number_txt {D : Option Addr} {us : List Nat} {m k : Nat} {a b s : Int} (hu : Hid (numJ (.text us) = ⟨a, b, s⟩)) (hl : us.length ≤ 4096) (w : World) (hL : Lai w) (h : Ar .u16 65536 w D us m k) :
    Calls Tryz.prog 27 #[Value.agg #[.int .i64 5, .int .i64 0, .int .i64 0, .bool false, .slice none 0 0, .slice D m k, .int .i64 0]] w fun e w' => e = .returned (.tuple #[.agg #[.int .i64 a, .int .i64 b], .int .i64 s]) ∧ Plus w w' := cnumber_v hu w hL (nv_text h hl) (nv_text h hl).vld
theorem number_bg {D : Option Addr} {z k : Nat} {a b s : Int} (hu : Hid (numJ (.big z) = ⟨a, b, s⟩)) (h0 : z ≠ 0) (w : World) (hL : Lai w) (h : Ar .u32 4294967296 w D [z] 1 k) :
    Calls Tryz.prog 27 #[Value.agg #[.int .i64 4, .int .i64 0, .int .i64 0, .bool false, .slice D 1 k, .slice none 0 0, .int .i64 0]] w fun e w' => e = .returned (.tuple #[.agg #[.int .i64 a, .int .i64 b], .int .i64 s]) ∧ Plus w w' := cnumber_v hu w hL (nv_big h h0) (nv_big h h0).vld
end Go.Proofs.YtgljfgkkolfnbaaGreatDoor

namespace Go.Proofs.YtgljfgkkolfnbaaGreatDoor
open Go.RowKit

set_option maxRecDepth 100000 in
set_option maxHeartbeats 4000000 in
theorem few_y {k p q : Int} {g : Bool} {A C : Option Addr} {n c m d : Nat} {r : Int} (w : World) (h1 : m ≤ 20000) (h2 : decide ((n : Int) ≤ 40) = true) : Calls Tryz.prog 26 #[Value.agg #[.int .i64 k, .int .i64 p, .int .i64 q, .bool g, .slice A n c, .slice C m d, .int .i64 r]] w fun e w' => e = .returned (.bool true) ∧ Plus w w' := by
  go_enter Tryz.func26, Tryz.ntmps26
  go_wp2_with fail
  go_returns
  exact ⟨rfl, (by repeat' (first | exact Plus.refl _ | refine Plus.alloc ?_ _ | refine Plus.plus ?_ _ | refine Plus.drew ?_ | refine Plus.drewN ?_ _))⟩
set_option maxRecDepth 100000 in
set_option maxHeartbeats 4000000 in
theorem few_n1 {k p q : Int} {g : Bool} {A C : Option Addr} {n c m d : Nat} {r : Int} (w : World) (h1 : ¬ m ≤ 20000) : Calls Tryz.prog 26 #[Value.agg #[.int .i64 k, .int .i64 p, .int .i64 q, .bool g, .slice A n c, .slice C m d, .int .i64 r]] w fun e w' => e = .returned (.bool false) ∧ Plus w w' := by
  go_enter Tryz.func26, Tryz.ntmps26
  go_wp2_with fail
  go_returns
  exact ⟨rfl, (by repeat' (first | exact Plus.refl _ | refine Plus.alloc ?_ _ | refine Plus.plus ?_ _ | refine Plus.drew ?_ | refine Plus.drewN ?_ _))⟩
set_option maxRecDepth 100000 in
set_option maxHeartbeats 4000000 in
theorem few_n2 {k p q : Int} {g : Bool} {A C : Option Addr} {n c m d : Nat} {r : Int} (w : World) (h1 : m ≤ 20000) (h2 : decide ((n : Int) ≤ 40) = false) : Calls Tryz.prog 26 #[Value.agg #[.int .i64 k, .int .i64 p, .int .i64 q, .bool g, .slice A n c, .slice C m d, .int .i64 r]] w fun e w' => e = .returned (.bool false) ∧ Plus w w' := by
  go_enter Tryz.func26, Tryz.ntmps26
  go_wp2_with fail
  go_returns
  exact ⟨rfl, (by repeat' (first | exact Plus.refl _ | refine Plus.alloc ?_ _ | refine Plus.plus ?_ _ | refine Plus.drew ?_ | refine Plus.drewN ?_ _))⟩
def fewB (m n : Nat) : Bool := decide (m ≤ 20000 ∧ n ≤ 40)
theorem few_v {k p q : Int} {g : Bool} {A C : Option Addr} {n c m d : Nat} {r : Int} {z : Bool} (hz : Hid (fewB m n = z)) (w : World) : Calls Tryz.prog 26 #[Value.agg #[.int .i64 k, .int .i64 p, .int .i64 q, .bool g, .slice A n c, .slice C m d, .int .i64 r]] w fun e w' => e = .returned (.bool z) ∧ Plus w w' := by
  obtain rfl := hz.out
  by_cases h1 : m ≤ 20000
  · by_cases h2 : n ≤ 40
    · rw [show fewB m n = true by simp [fewB, h1, h2]]
      exact few_y w h1 (by simp; omega)
    · rw [show fewB m n = false by simp [fewB, h2]]
      exact few_n2 w h1 (by simp; omega)
  · rw [show fewB m n = false by simp [fewB, h1]]
    exact few_n1 w h1
theorem few_of {m n : Nat} (h : fewB m n = true) : m ≤ 20000 ∧ n ≤ 40 := by unfold fewB at h; exact of_decide_eq_true h
def okJ : JV → Prop
  | .num p q => IsV p q
  | .big z => z.natAbs < Bg.B ^ 8
  | .text us => us.length ≤ 4096 ∧ ∀ x ∈ us, x < 65536
  | _ => True
theorem NV.ok {w : World} {v : Value} {x : JV} (h : NV w v x) : okJ x := by
  cases x with
  | num p q => obtain ⟨A, C, c, d, _, _, _, h3⟩ := h; exact h3
  | big z => obtain ⟨g, A, C, xs, n, c, d, _, _, _, rfl, h4⟩ := h; exact Bg.bigI_abs h4.lim.1
  | text us => obtain ⟨A, C, c, m, d, _, _, h2, h3⟩ := h; exact ⟨h2, h3.bd⟩
  | _ => trivial
theorem equalS_cases {p q r s : Int} (h1 : IsV p q) (h2 : IsV r s) (h : equalS p q r s = true) : (p = r ∧ q = s) ∨ (q = 0 ∧ s = 0 ∧ (p = 0 ∨ p = 1) ∧ (r = 0 ∨ r = 1)) := by
  unfold equalS place at h
  rcases h1 with ⟨rfl, a, b⟩ | ⟨rfl, rfl⟩ | ⟨rfl, rfl⟩ | ⟨rfl, rfl⟩ | ⟨rfl, rfl⟩ <;> rcases h2 with ⟨rfl, c, d⟩ | ⟨rfl, rfl⟩ | ⟨rfl, rfl⟩ | ⟨rfl, rfl⟩ | ⟨rfl, rfl⟩ <;> simp at h ⊢ <;> omega
theorem equalS_refl {p q : Int} (h : (p == 2) = false) : equalS p q p q = true := by unfold equalS; simp [h]
theorem strict_eqv {x y : JV} (h1 : okJ x) (h2 : okJ y) (h : strictJ x y = true) : txtJ x = txtJ y ∧ idxJ x = idxJ y ∧ boolJ x = boolJ y := by
  cases x <;> cases y <;> simp only [strictJ, Bool.false_eq_true] at h
  case undef.undef => exact ⟨rfl, rfl, rfl⟩
  case null.null => exact ⟨rfl, rfl, rfl⟩
  case bool.bool a b => obtain rfl : a = b := by simpa using h
                        exact ⟨rfl, rfl, rfl⟩
  case num.num p q r s =>
    rcases equalS_cases h1 h2 h with ⟨rfl, rfl⟩ | ⟨rfl, rfl, hp, hr⟩
    · exact ⟨rfl, rfl, rfl⟩
    · rcases hp with rfl | rfl <;> rcases hr with rfl | rfl <;> exact ⟨rfl, rfl, rfl⟩
  case big.big a b => obtain rfl : a = b := by simpa using h
                      exact ⟨rfl, rfl, rfl⟩
  case text.text a b => obtain rfl : a = b := by simpa using h
                        exact ⟨rfl, rfl, rfl⟩
  case obj.obj a b => obtain rfl : a = b := by simpa using h
                      exact ⟨rfl, rfl, rfl⟩
theorem equalS_place {p q r s : Int} : equalS p q r s = true ↔ (p ≠ 2 ∧ r ≠ 2 ∧ place p q = place r s) := by unfold equalS; simp
theorem strict_trans {x y z : JV} (h1 : strictJ x y = true) (h2 : strictJ y z = true) : strictJ x z = true := by
  cases x <;> cases y <;> simp only [strictJ, Bool.false_eq_true] at h1 <;> cases z <;> simp only [strictJ, Bool.false_eq_true] at h2 ⊢
  case bool.bool.bool a b c => simp at h1 h2 ⊢; exact h1.trans h2
  case num.num.num => rw [equalS_place] at h1 h2 ⊢; exact ⟨h1.1, h2.2.1, h1.2.2.trans h2.2.2⟩
  case big.big.big => simp at h1 h2 ⊢; exact h1.trans h2
  case text.text.text => simp at h1 h2 ⊢; exact h1.trans h2
  case obj.obj.obj => simp at h1 h2 ⊢; exact h1.trans h2
theorem strict_symm (x y : JV) : strictJ x y = strictJ y x := by
  cases x <;> cases y <;> simp only [strictJ]
  case bool.bool a b => cases a <;> cases b <;> rfl
  case num.num p q r s => rw [Bool.eq_iff_iff, equalS_place, equalS_place]; constructor <;> (rintro ⟨a, b, c⟩; exact ⟨b, a, c.symm⟩)
  case big.big a b => simp [eq_comm]
  case text.text a b => simp [eq_comm]
  case obj.obj a b => simp [eq_comm]
end Go.Proofs.YtgljfgkkolfnbaaGreatDoor

namespace Go.Proofs.YtgljfgkkolfnbaaGreatDoor
open Go.RowKit

/-- Two worlds that differ in blocks that hold no cell of kind k. -/
def NoK (k : IntKind) (o : Obj) : Prop := ∃ cs e z, o = .cells cs e z ∧ ∀ v ∈ cs, ∀ y, v ≠ .int k y
def Off (k : IntKind) (W1 W2 : World) : Prop := W1.heap.size = W2.heap.size ∧ ∀ b : Nat, W2.heap[b]? = W1.heap[b]? ∨ ∃ o, W1.heap[b]? = some o ∧ NoK k o
theorem Off.refl (k : IntKind) (w : World) : Off k w w := ⟨rfl, fun _ => .inl rfl⟩
theorem Off.allocN {k : IntKind} {W1 W2 : World} {o o' : Obj} (h : Off k W1 W2) (ho : NoK k o) : Off k (W1.alloc o) (W2.alloc o') := by
  refine ⟨by rw [World.size_alloc, World.size_alloc, h.1], fun b => ?_⟩
  simp only [World.alloc, Array.getElem?_push, h.1]
  by_cases hb : b = W2.heap.size
  · rw [if_pos hb, if_pos hb]; exact .inr ⟨o, rfl, ho⟩
  · rw [if_neg hb, if_neg hb]; exact h.2 b
theorem Off.alloc {k : IntKind} {W1 W2 : World} (h : Off k W1 W2) (o : Obj) : Off k (W1.alloc o) (W2.alloc o) := by
  refine ⟨by rw [World.size_alloc, World.size_alloc, h.1], fun b => ?_⟩
  simp only [World.alloc, Array.getElem?_push, h.1]
  by_cases hb : b = W2.heap.size
  · rw [if_pos hb, if_pos hb]; exact .inl rfl
  · rw [if_neg hb, if_neg hb]; exact h.2 b
theorem Off.plus {k : IntKind} {W1 W2 : World} (h : Off k W1 W2) (x : More) : Off k (_root_.Go.Proofs.YtgljfgkkolfnbaaGreatDoor.plus W1 x) (_root_.Go.Proofs.YtgljfgkkolfnbaaGreatDoor.plus W2 x) := by
  refine ⟨by rw [size_plus, size_plus, h.1], fun b => ?_⟩
  simp only [_root_.Go.Proofs.YtgljfgkkolfnbaaGreatDoor.plus]
  by_cases hb : b < W1.heap.size
  · rw [Array.getElem?_append_left hb, Array.getElem?_append_left (by rw [← h.1]; exact hb)]; exact h.2 b
  · have h1 := h.1
    rw [Array.getElem?_append_right (by omega), Array.getElem?_append_right (by omega), h1]; exact .inl rfl
theorem Off.drew {k : IntKind} {W1 W2 : World} (h : Off k W1 W2) : Off k W1.drew W2.drew := h
theorem Rd.off {k : IntKind} {W1 W2 : World} {A : Option Addr} {xs : List Nat} (h : Rd k W1 A xs) (o : Off k W1 W2) : Rd k W2 A xs := fun h0 => by
  obtain ⟨g, p, rfl, hg, ha⟩ := h h0
  refine ⟨g, p, rfl, by rw [← o.1]; exact hg, fun j hj => ?_⟩
  rcases o.2 g with e | ⟨ob, hob, cs, t, z, rfl, hc⟩
  · rw [World.cell?_of_block (w := W1) e]; exact ha j hj
  · exfalso
    have q := ha j hj
    rw [cell_of_row W1 g (p + j) cs t z hob] at q
    exact hc _ (Array.mem_of_getElem? q) _ rfl
theorem Ar.off {k : IntKind} {K : Nat} {W1 W2 : World} {A : Option Addr} {xs : List Nat} {n c : Nat} (h : Ar k K W1 A xs n c) (o : Off k W1 W2) : Ar k K W2 A xs n c := ⟨h.rd.off o, h.len, h.cap, h.max, h.bd⟩
theorem arg_off {W1 W2 : World} {A : Option Addr} {xs : List Nat} {n c : Nat} (h : Bg.Arg W1 A xs n c) (o : Off .u32 W1 W2) : Bg.Arg W2 A xs n c :=
  ⟨⟨h.lim.1, (lim_rd ((rd_lim h.lim).off o) h.lim.1).2⟩, h.len, h.few, h.cap, h.max⟩
theorem noB (b : Bool) (A : Option Addr) (n c : Nat) (e : TypeId) : NoK .u32 (.cells #[.bool b, .slice A n c] e) := ⟨_, _, _, rfl, by simp⟩
theorem noV (k p q : Int) (g : Bool) (A C : Option Addr) (n c m d : Nat) (r : Int) (e : TypeId) : NoK .u32 (.cells #[.int .i64 k, .int .i64 p, .int .i64 q, .bool g, .slice A n c, .slice C m d, .int .i64 r] e) := ⟨_, _, _, rfl, by simp⟩
theorem noN (k p : Int) (e : TypeId) : NoK .u32 (.cells #[.int .i64 k, .int .i64 p] e) := ⟨_, _, _, rfl, by simp⟩
/-- A BigInt that comes with a signal. -/
def BgP (pb : Bool) (us : List Nat) (s : Int) (w : World) (e : Ending) (w' : World) : Prop :=
  ∃ (A : Option Addr) (c : Nat), e = .returned (.tuple #[.agg #[.bool pb, .slice A us.length c], .int .i64 s]) ∧ Bg.Arg w' A us us.length c ∧ Plus w w'
theorem trimL_v {s c : ByteArray} {T : List UInt8} (h : Hid (Lib.trimLeftS s.data.toList c.data.toList = T)) (w : World) (hc : c.size < 4294967281) (ha : ∀ (j : Nat) b, c.data.toList[j]? = some b → b.toNat < 128) :
    Calls Tryz.prog 215 #[.string s, .string c] w fun e w' => e = .returned (.string (str T)) ∧ Plus w w' := by
  have := trimLeft_c s c w hc ha
  rw [h.out] at this
  exact this
theorem z48 : ∀ (j : Nat) b, (⟨#[48]⟩ : ByteArray).data.toList[j]? = some b → b.toNat < 128 := asc_get (l := [48]) (by intro x hx; simp at hx; subst hx; decide)
theorem clone32_n {A : Option Addr} {xs : List Nat} {n c : Nat} (w : World) (h : Bg.Arg w A xs n c) : Calls Tryz.prog 132 #[.slice A n c] w fun e w' => ∃ (D : Option Addr) (k : Nat), e = .returned (.slice D n k) ∧ Bg.Arg w' D xs n k ∧ Plus w w' := by
  refine (Bg.clone_c A xs n c w h.lim h.len h.few).mono ?_
  rintro e w' ⟨v, rfl, ho, hb⟩
  obtain ⟨D, k, rfl, h1, h2, h3⟩ := rd_of_own (k := .u32) ho
  have hn := h.len
  subst hn
  exact ⟨D, k, rfl, ⟨lim_rd h3 h.lim.1, rfl, h.few, h1, h2⟩, Plus.of_below hb⟩
set_option maxRecDepth 100000 in
set_option maxHeartbeats 4000000 in
theorem cloned_v {g : Bool} {A : Option Addr} {xs : List Nat} {n c : Nat} (w : World) (h : Hid (Bg.Arg w A xs n c)) : Calls Tryz.prog 69 #[.agg #[.bool g, .slice A n c]] w fun e w' => ∃ (D : Option Addr) (k : Nat), e = .returned (.agg #[.bool g, .slice D n k]) ∧ Bg.Arg w' D xs n k ∧ Plus w w' := by
  go_enter Tryz.func69, Tryz.ntmps69
  go_wp2_with fail
  go_region_with (go_at_call 132; (with_reducible refine (clone32_n _ (h.out.plus (by repeat' (first | exact Plus.refl _ | refine Plus.alloc ?_ _ | refine Plus.plus ?_ _ | refine Plus.drew ?_ | refine Plus.drewN ?_ _)))).mono ?_); rintro e w1 ⟨D, k, rfl, hD, ⟨x1, rfl⟩⟩; have HD := Lib.hid hD; clear hD)
  all_goals go_wp2_with fail
  all_goals go_returns
  all_goals
    have q := HD.out
    (try simp only [plus_drew] at q)
    exact ⟨D, k, rfl, arg_off q (by repeat' (first | exact Off.refl _ _ | refine Off.plus ?_ _ | refine Off.alloc ?_ _ | exact Off.allocN (Off.refl _ _) (noB _ _ _ _ _) | exact Off.allocN (Off.refl _ _) (noV _ _ _ _ _ _ _ _ _ _ _ _) | refine Off.allocN ?_ (noB _ _ _ _ _) | refine Off.allocN ?_ (noV _ _ _ _ _ _ _ _ _ _ _ _) | refine Off.drew ?_)), (by repeat' (first | exact Plus.refl _ | refine Plus.alloc ?_ _ | refine Plus.plus ?_ _ | refine Plus.drew ?_ | refine Plus.drewN ?_ _))⟩
end Go.Proofs.YtgljfgkkolfnbaaGreatDoor
