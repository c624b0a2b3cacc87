/- oper: Unary and Step. -/
import Derived.IntWalk
import Derived.Test.YtakahpbondaidaaGreatDoorPA6
import Derived.Test.YtakahpbondaidaaGreatDoorPA1
import Derived.Test.YtakahpbondaidaaGreatDoorPA7
import Derived.Test.YtakahpbondaidaaGreatDoorPZR
namespace Go.Proofs.YtakahpbondaidaaGreatDoor
open Go.RowKit

theorem cnumeric_u {k p q : Int} {g : Bool} {A C : Option Addr} {n c m d : Nat} {r : Int} {u : Value} {z : Int} (w : World) (h : NV w u (.big z)) (hv : Vld w (Value.agg #[.int .i64 k, .int .i64 p, .int .i64 q, .bool g, .slice A n c, .slice C m d, .int .i64 r]) u) : Calls Tryz.prog 12 #[Value.agg #[.int .i64 k, .int .i64 p, .int .i64 q, .bool g, .slice A n c, .slice C m d, .int .i64 r]] w (RetB z w) := by
  obtain ⟨g2, A2, C2, xs2, n2, c2, d2, rfl, h1, h2, h3, h4⟩ := h
  refine (numeric_big w (Lib.hid hv) (Lib.hid h4)).mono ?_
  rintro e w' ⟨D, k, rfl, hD, hp⟩
  exact ⟨g2, D, xs2, n2, k, rfl, ⟨h2, h3, hD⟩, hp⟩
set_option maxRecDepth 100000 in
set_option maxHeartbeats 4000000 in
theorem onumber_y {k p q : Int} {g : Bool} {A C : Option Addr} {n c m d : Nat} {r : Int} {u : Value} {x : JV} (w : World) (hL : Hid (Lai w)) (hn : Hid (NV w u x)) (hv : Hid (Vld w (Value.agg #[.int .i64 k, .int .i64 p, .int .i64 q, .bool g, .slice A n c, .slice C m d, .int .i64 r]) u)) {a b : Int} (hJ : Hid (numJ x = ⟨a, b, 0⟩)) : Calls Tryz.prog 84 #[Value.agg #[.int .i64 k, .int .i64 p, .int .i64 q, .bool g, .slice A n c, .slice C m d, .int .i64 r]] w (fun e w' => e = .returned (.tuple #[Value.agg #[.int .i64 3, .int .i64 a, .int .i64 b, .bool false, .slice none 0 0, .slice none 0 0, .int .i64 0], .int .i64 0]) ∧ Plus w w') := by
  go_enter Tryz.func84, Tryz.ntmps84
  go_wp2_with (first | (go_at_call 10; (with_reducible refine (cnumber_v hJ _ (hL.out.plus (by repeat' (first | exact Plus.refl _ | refine Plus.alloc ?_ _ | refine Plus.plus ?_ _ | refine Plus.drew ?_ | refine Plus.drewN ?_ _))) (hn.out.plus (by repeat' (first | exact Plus.refl _ | refine Plus.alloc ?_ _ | refine Plus.plus ?_ _ | refine Plus.drew ?_ | refine Plus.drewN ?_ _))) (hv.out.plus (by repeat' (first | exact Plus.refl _ | refine Plus.alloc ?_ _ | refine Plus.plus ?_ _ | refine Plus.drew ?_ | refine Plus.drewN ?_ _)))).mono ?_); rintro e w1 ⟨rfl, ⟨y1, rfl⟩⟩) | (go_at_call 49; (with_reducible refine (cnum_n _).mono ?_); rintro e w1 ⟨rfl, ⟨x2, rfl⟩⟩))
  go_returns
  exact ⟨rfl, (by repeat' (first | exact Plus.refl _ | refine Plus.alloc ?_ _ | refine Plus.plus ?_ _ | refine Plus.drew ?_ | refine Plus.drewN ?_ _))⟩
set_option maxRecDepth 100000 in
set_option maxHeartbeats 4000000 in
theorem onumber_e {k p q : Int} {g : Bool} {A C : Option Addr} {n c m d : Nat} {r : Int} {u : Value} {x : JV} (w : World) (hL : Hid (Lai w)) (hn : Hid (NV w u x)) (hv : Hid (Vld w (Value.agg #[.int .i64 k, .int .i64 p, .int .i64 q, .bool g, .slice A n c, .slice C m d, .int .i64 r]) u)) {a b s : Int} (hJ : Hid (numJ x = ⟨a, b, s⟩)) (hs : (s != 0) = true) : Calls Tryz.prog 84 #[Value.agg #[.int .i64 k, .int .i64 p, .int .i64 q, .bool g, .slice A n c, .slice C m d, .int .i64 r]] w (fun e w' => e = .returned (.tuple #[Value.agg #[.int .i64 0, .int .i64 0, .int .i64 0, .bool false, .slice none 0 0, .slice none 0 0, .int .i64 0], .int .i64 s]) ∧ Plus w w') := by
  go_enter Tryz.func84, Tryz.ntmps84
  go_wp2_with (go_at_call 10; (with_reducible refine (cnumber_v hJ _ (hL.out.plus (by repeat' (first | exact Plus.refl _ | refine Plus.alloc ?_ _ | refine Plus.plus ?_ _ | refine Plus.drew ?_ | refine Plus.drewN ?_ _))) (hn.out.plus (by repeat' (first | exact Plus.refl _ | refine Plus.alloc ?_ _ | refine Plus.plus ?_ _ | refine Plus.drew ?_ | refine Plus.drewN ?_ _))) (hv.out.plus (by repeat' (first | exact Plus.refl _ | refine Plus.alloc ?_ _ | refine Plus.plus ?_ _ | refine Plus.drew ?_ | refine Plus.drewN ?_ _)))).mono ?_); rintro e w1 ⟨rfl, ⟨y1, rfl⟩⟩)
  go_returns
  exact ⟨rfl, (by repeat' (first | exact Plus.refl _ | refine Plus.alloc ?_ _ | refine Plus.plus ?_ _ | refine Plus.drew ?_ | refine Plus.drewN ?_ _))⟩
set_option maxRecDepth 100000 in
set_option maxHeartbeats 4000000 in
theorem oneg_S {k p q : Int} {g : Bool} {A C : Option Addr} {n c m d : Nat} {r : Int} {u : Value} {x : JV} (w : World) (hL : Hid (Lai w)) (hn : Hid (NV w u x)) (hv : Hid (Vld w (Value.agg #[.int .i64 k, .int .i64 p, .int .i64 q, .bool g, .slice A n c, .slice C m d, .int .i64 r]) u)) {a b s : Int} (hJ : Hid (numJ x = ⟨a, b, s⟩)) (nb : ∀ z, x ≠ .big z) (hs : (s != 0) = true) : Calls Tryz.prog 85 #[Value.agg #[.int .i64 k, .int .i64 p, .int .i64 q, .bool g, .slice A n c, .slice C m d, .int .i64 r]] w (fun e w' => e = .returned (.tuple #[Value.agg #[.int .i64 0, .int .i64 0, .int .i64 0, .bool false, .slice none 0 0, .slice none 0 0, .int .i64 0], .int .i64 s]) ∧ Plus w w') := by
  go_enter Tryz.func85, Tryz.ntmps85
  go_wp2_with (go_at_call 12; (with_reducible refine (cnumeric_e hJ nb hs _ (hL.out.plus (by repeat' (first | exact Plus.refl _ | refine Plus.alloc ?_ _ | refine Plus.plus ?_ _ | refine Plus.drew ?_ | refine Plus.drewN ?_ _))) (hn.out.plus (by repeat' (first | exact Plus.refl _ | refine Plus.alloc ?_ _ | refine Plus.plus ?_ _ | refine Plus.drew ?_ | refine Plus.drewN ?_ _))) (hv.out.plus (by repeat' (first | exact Plus.refl _ | refine Plus.alloc ?_ _ | refine Plus.plus ?_ _ | refine Plus.drew ?_ | refine Plus.drewN ?_ _)))).mono ?_); rintro e w1 ⟨rfl, ⟨y1, rfl⟩⟩)
  go_returns
  exact ⟨rfl, (by repeat' (first | exact Plus.refl _ | refine Plus.alloc ?_ _ | refine Plus.plus ?_ _ | refine Plus.drew ?_ | refine Plus.drewN ?_ _))⟩
set_option maxRecDepth 100000 in
set_option maxHeartbeats 4000000 in
theorem oneg_N {k p q : Int} {g : Bool} {A C : Option Addr} {n c m d : Nat} {r : Int} {u : Value} {x : JV} (w : World) (hL : Hid (Lai w)) (hn : Hid (NV w u x)) (hv : Hid (Vld w (Value.agg #[.int .i64 k, .int .i64 p, .int .i64 q, .bool g, .slice A n c, .slice C m d, .int .i64 r]) u)) {a b : Int} (hJ : Hid (numJ x = ⟨a, b, 0⟩)) (nb : ∀ z, x ≠ .big z) {p2 q2 : Int} (h : Hid (negR a b = ⟨p2, q2⟩)) : Calls Tryz.prog 85 #[Value.agg #[.int .i64 k, .int .i64 p, .int .i64 q, .bool g, .slice A n c, .slice C m d, .int .i64 r]] w (fun e w' => e = .returned (.tuple #[Value.agg #[.int .i64 3, .int .i64 p2, .int .i64 q2, .bool false, .slice none 0 0, .slice none 0 0, .int .i64 0], .int .i64 0]) ∧ Plus w w') := by
  go_enter Tryz.func85, Tryz.ntmps85
  go_wp2_with (first | (go_at_call 12; (with_reducible refine (cnumeric_y hJ nb _ (hL.out.plus (by repeat' (first | exact Plus.refl _ | refine Plus.alloc ?_ _ | refine Plus.plus ?_ _ | refine Plus.drew ?_ | refine Plus.drewN ?_ _))) (hn.out.plus (by repeat' (first | exact Plus.refl _ | refine Plus.alloc ?_ _ | refine Plus.plus ?_ _ | refine Plus.drew ?_ | refine Plus.drewN ?_ _))) (hv.out.plus (by repeat' (first | exact Plus.refl _ | refine Plus.alloc ?_ _ | refine Plus.plus ?_ _ | refine Plus.drew ?_ | refine Plus.drewN ?_ _)))).mono ?_); rintro e w1 ⟨rfl, ⟨y1, rfl⟩⟩) | (go_at_call 144; (with_reducible refine (neg_v h _).mono ?_); rintro e w1 ⟨rfl, ⟨x2, rfl⟩⟩) | (go_at_call 49; (with_reducible refine (cnum_n _).mono ?_); rintro e w1 ⟨rfl, ⟨x3, rfl⟩⟩))
  go_returns
  exact ⟨rfl, (by repeat' (first | exact Plus.refl _ | refine Plus.alloc ?_ _ | refine Plus.plus ?_ _ | refine Plus.drew ?_ | refine Plus.drewN ?_ _))⟩
theorem obneg_v {ga : Bool} {Aa : Option Addr} {xsa : List Nat} {na ca : Nat} {za r : Int} {pb : Bool} {us : List Nat} (hr : Hid (Bg.NegN za r pb us)) (w : World) (h : BgV ga Aa xsa na ca za w) : Calls Tryz.prog 110 #[.agg #[.bool ga, .slice Aa na ca]] w fun e w' => ∃ (A1 : Option Addr) (c1 : Nat), e = .returned (.agg #[.bool pb, .slice A1 us.length c1]) ∧ BgV pb A1 us us.length c1 r w' ∧ Plus w w' := by
  refine (Bg.neg_n (Lib.hid h.2.1) hr w h.2.2).mono ?_
  rintro e w' ⟨A1, c1, rfl, hA, hp⟩
  exact ⟨A1, c1, rfl, BgV.mk3 hr.out.1 hA, hp⟩
set_option maxRecDepth 100000 in
set_option maxHeartbeats 4000000 in
theorem oneg_B {k p q : Int} {g : Bool} {A C : Option Addr} {n c m d : Nat} {r : Int} {u : Value} {z : Int} (w : World) (hn : Hid (NV w u (.big z))) (hv : Hid (Vld w (Value.agg #[.int .i64 k, .int .i64 p, .int .i64 q, .bool g, .slice A n c, .slice C m d, .int .i64 r]) u)) {zr : Int} {pb : Bool} {us : List Nat} (hr : Hid (Bg.NegN z zr pb us)) : Calls Tryz.prog 85 #[Value.agg #[.int .i64 k, .int .i64 p, .int .i64 q, .bool g, .slice A n c, .slice C m d, .int .i64 r]] w (RetB zr w) := by
  go_enter Tryz.func85, Tryz.ntmps85
  go_wp2_with (first | (go_at_call 12; (with_reducible refine (cnumeric_u _ (hn.out.plus (by repeat' (first | exact Plus.refl _ | refine Plus.alloc ?_ _ | refine Plus.plus ?_ _ | refine Plus.drew ?_ | refine Plus.drewN ?_ _))) (hv.out.plus (by repeat' (first | exact Plus.refl _ | refine Plus.alloc ?_ _ | refine Plus.plus ?_ _ | refine Plus.drew ?_ | refine Plus.drewN ?_ _)))).mono ?_); rintro e w1 ⟨ga1, Aa1, xsa1, na1, ca1, rfl, hBa, ⟨y1, rfl⟩⟩; have HBa := Lib.hid hBa; clear hBa) | (go_at_call 110; (with_reducible refine (obneg_v hr _ (HBa.out.offs (by repeat (first | (refine Offp.of ?_; (repeat' (first | exact Offs.refl _ | refine Offs.plus ?_ _ | refine Offs.alloc ?_ _ | exact Offs.allocN (Offs.refl _) (nuV _ _ _ _ _ _ _ _ _ _ _ _) | refine Offs.allocN ?_ (nuV _ _ _ _ _ _ _ _ _ _ _ _) | refine Offs.allocN ?_ (nuB _ _ _ _ _) | refine Offs.allocN ?_ (nuN _ _ _) | refine Offs.drew ?_ | refine Offs.drewL ?_ | refine Offs.drewR ?_)); done) | refine Offp.plusR ?_ _ | refine Offp.allocR ?_ _ | refine Offp.drewR ?_)))).mono ?_); rintro e w1 ⟨A3, c3, rfl, hC, ⟨x2, rfl⟩⟩; have HC := Lib.hid hC; clear hC) | (go_at_call 143; (with_reducible refine (ofbig_v _).mono ?_); rintro e w1 ⟨rfl, ⟨x3, rfl⟩⟩))
  go_returns
  exact ⟨pb, A3, us, us.length, c3, rfl, HC.out.offs (by repeat (first | (refine Offp.of ?_; (repeat' (first | exact Offs.refl _ | refine Offs.plus ?_ _ | refine Offs.alloc ?_ _ | exact Offs.allocN (Offs.refl _) (nuV _ _ _ _ _ _ _ _ _ _ _ _) | refine Offs.allocN ?_ (nuV _ _ _ _ _ _ _ _ _ _ _ _) | refine Offs.allocN ?_ (nuB _ _ _ _ _) | refine Offs.allocN ?_ (nuN _ _ _) | refine Offs.drew ?_ | refine Offs.drewL ?_ | refine Offs.drewR ?_)); done) | refine Offp.plusR ?_ _ | refine Offp.allocR ?_ _ | refine Offp.drewR ?_)), (by repeat' (first | exact Plus.refl _ | refine Plus.alloc ?_ _ | refine Plus.plus ?_ _ | refine Plus.drew ?_ | refine Plus.drewN ?_ _))⟩
set_option maxRecDepth 100000 in
set_option maxHeartbeats 4000000 in
theorem oinv_S {k p q : Int} {g : Bool} {A C : Option Addr} {n c m d : Nat} {r : Int} {u : Value} {x : JV} (w : World) (hL : Hid (Lai w)) (hn : Hid (NV w u x)) (hv : Hid (Vld w (Value.agg #[.int .i64 k, .int .i64 p, .int .i64 q, .bool g, .slice A n c, .slice C m d, .int .i64 r]) u)) {a b s : Int} (hJ : Hid (numJ x = ⟨a, b, s⟩)) (nb : ∀ z, x ≠ .big z) (hs : (s != 0) = true) : Calls Tryz.prog 86 #[Value.agg #[.int .i64 k, .int .i64 p, .int .i64 q, .bool g, .slice A n c, .slice C m d, .int .i64 r]] w (fun e w' => e = .returned (.tuple #[Value.agg #[.int .i64 0, .int .i64 0, .int .i64 0, .bool false, .slice none 0 0, .slice none 0 0, .int .i64 0], .int .i64 s]) ∧ Plus w w') := by
  go_enter Tryz.func86, Tryz.ntmps86
  go_wp2_with (go_at_call 12; (with_reducible refine (cnumeric_e hJ nb hs _ (hL.out.plus (by repeat' (first | exact Plus.refl _ | refine Plus.alloc ?_ _ | refine Plus.plus ?_ _ | refine Plus.drew ?_ | refine Plus.drewN ?_ _))) (hn.out.plus (by repeat' (first | exact Plus.refl _ | refine Plus.alloc ?_ _ | refine Plus.plus ?_ _ | refine Plus.drew ?_ | refine Plus.drewN ?_ _))) (hv.out.plus (by repeat' (first | exact Plus.refl _ | refine Plus.alloc ?_ _ | refine Plus.plus ?_ _ | refine Plus.drew ?_ | refine Plus.drewN ?_ _)))).mono ?_); rintro e w1 ⟨rfl, ⟨y1, rfl⟩⟩)
  go_returns
  exact ⟨rfl, (by repeat' (first | exact Plus.refl _ | refine Plus.alloc ?_ _ | refine Plus.plus ?_ _ | refine Plus.drew ?_ | refine Plus.drewN ?_ _))⟩
set_option maxRecDepth 100000 in
set_option maxHeartbeats 4000000 in
theorem oinv_N {k p q : Int} {g : Bool} {A C : Option Addr} {n c m d : Nat} {r : Int} {u : Value} {x : JV} (w : World) (hL : Hid (Lai w)) (hn : Hid (NV w u x)) (hv : Hid (Vld w (Value.agg #[.int .i64 k, .int .i64 p, .int .i64 q, .bool g, .slice A n c, .slice C m d, .int .i64 r]) u)) {a b : Int} (hJ : Hid (numJ x = ⟨a, b, 0⟩)) (nb : ∀ z, x ≠ .big z) {p2 q2 : Int} (h : Hid (bitR 3 a b 0 (-1) = ⟨p2, q2⟩)) : Calls Tryz.prog 86 #[Value.agg #[.int .i64 k, .int .i64 p, .int .i64 q, .bool g, .slice A n c, .slice C m d, .int .i64 r]] w (fun e w' => e = .returned (.tuple #[Value.agg #[.int .i64 3, .int .i64 p2, .int .i64 q2, .bool false, .slice none 0 0, .slice none 0 0, .int .i64 0], .int .i64 0]) ∧ Plus w w') := by
  go_enter Tryz.func86, Tryz.ntmps86
  go_wp2_with (first | (go_at_call 12; (with_reducible refine (cnumeric_y hJ nb _ (hL.out.plus (by repeat' (first | exact Plus.refl _ | refine Plus.alloc ?_ _ | refine Plus.plus ?_ _ | refine Plus.drew ?_ | refine Plus.drewN ?_ _))) (hn.out.plus (by repeat' (first | exact Plus.refl _ | refine Plus.alloc ?_ _ | refine Plus.plus ?_ _ | refine Plus.drew ?_ | refine Plus.drewN ?_ _))) (hv.out.plus (by repeat' (first | exact Plus.refl _ | refine Plus.alloc ?_ _ | refine Plus.plus ?_ _ | refine Plus.drew ?_ | refine Plus.drewN ?_ _)))).mono ?_); rintro e w1 ⟨rfl, ⟨y1, rfl⟩⟩) | (go_at_call 145; (with_reducible refine (bit_v h _).mono ?_); rintro e w1 ⟨rfl, ⟨x2, rfl⟩⟩) | (go_at_call 49; (with_reducible refine (cnum_n _).mono ?_); rintro e w1 ⟨rfl, ⟨x3, rfl⟩⟩))
  go_returns
  exact ⟨rfl, (by repeat' (first | exact Plus.refl _ | refine Plus.alloc ?_ _ | refine Plus.plus ?_ _ | refine Plus.drew ?_ | refine Plus.drewN ?_ _))⟩
set_option maxRecDepth 100000 in
set_option maxHeartbeats 4000000 in
theorem oinv_B {k p q : Int} {g : Bool} {A C : Option Addr} {n c m d : Nat} {r : Int} {u : Value} {z : Int} (w : World) (hn : Hid (NV w u (.big z))) (hv : Hid (Vld w (Value.agg #[.int .i64 k, .int .i64 p, .int .i64 q, .bool g, .slice A n c, .slice C m d, .int .i64 r]) u)) : Calls Tryz.prog 86 #[Value.agg #[.int .i64 k, .int .i64 p, .int .i64 q, .bool g, .slice A n c, .slice C m d, .int .i64 r]] w (fun e w' => e = .returned (.tuple #[Value.agg #[.int .i64 0, .int .i64 0, .int .i64 0, .bool false, .slice none 0 0, .slice none 0 0, .int .i64 0], .int .i64 3]) ∧ Plus w w') := by
  go_enter Tryz.func86, Tryz.ntmps86
  go_wp2_with (go_at_call 12; (with_reducible refine (cnumeric_u _ (hn.out.plus (by repeat' (first | exact Plus.refl _ | refine Plus.alloc ?_ _ | refine Plus.plus ?_ _ | refine Plus.drew ?_ | refine Plus.drewN ?_ _))) (hv.out.plus (by repeat' (first | exact Plus.refl _ | refine Plus.alloc ?_ _ | refine Plus.plus ?_ _ | refine Plus.drew ?_ | refine Plus.drewN ?_ _)))).mono ?_); rintro e w1 ⟨ga1, Aa1, xsa1, na1, ca1, rfl, hBa, ⟨y1, rfl⟩⟩; have HBa := Lib.hid hBa; clear hBa)
  go_returns
  exact ⟨rfl, (by repeat' (first | exact Plus.refl _ | refine Plus.alloc ?_ _ | refine Plus.plus ?_ _ | refine Plus.drew ?_ | refine Plus.drewN ?_ _))⟩
set_option maxRecDepth 100000 in
set_option maxHeartbeats 4000000 in
theorem step_S {k p q : Int} {g : Bool} {A C : Option Addr} {n c m d : Nat} {r : Int} {u : Value} {x : JV} (w : World) (hL : Hid (Lai w)) (hn : Hid (NV w u x)) (hv : Hid (Vld w (Value.agg #[.int .i64 k, .int .i64 p, .int .i64 q, .bool g, .slice A n c, .slice C m d, .int .i64 r]) u)) {y : Int} {a b s : Int} (hJ : Hid (numJ x = ⟨a, b, s⟩)) (nb : ∀ z, x ≠ .big z) (hs : (s != 0) = true) : Calls Tryz.prog 35 #[Value.agg #[.int .i64 k, .int .i64 p, .int .i64 q, .bool g, .slice A n c, .slice C m d, .int .i64 r], .int .i64 y] w (fun e w' => e = .returned (.tuple #[Value.agg #[.int .i64 0, .int .i64 0, .int .i64 0, .bool false, .slice none 0 0, .slice none 0 0, .int .i64 0], .int .i64 s]) ∧ Plus w w') := by
  go_enter Tryz.func35, Tryz.ntmps35
  go_wp2_with (go_at_call 12; (with_reducible refine (cnumeric_e hJ nb hs _ (hL.out.plus (by repeat' (first | exact Plus.refl _ | refine Plus.alloc ?_ _ | refine Plus.plus ?_ _ | refine Plus.drew ?_ | refine Plus.drewN ?_ _))) (hn.out.plus (by repeat' (first | exact Plus.refl _ | refine Plus.alloc ?_ _ | refine Plus.plus ?_ _ | refine Plus.drew ?_ | refine Plus.drewN ?_ _))) (hv.out.plus (by repeat' (first | exact Plus.refl _ | refine Plus.alloc ?_ _ | refine Plus.plus ?_ _ | refine Plus.drew ?_ | refine Plus.drewN ?_ _)))).mono ?_); rintro e w1 ⟨rfl, ⟨y1, rfl⟩⟩)
  go_returns
  exact ⟨rfl, (by repeat' (first | exact Plus.refl _ | refine Plus.alloc ?_ _ | refine Plus.plus ?_ _ | refine Plus.drew ?_ | refine Plus.drewN ?_ _))⟩
set_option maxRecDepth 100000 in
set_option maxHeartbeats 4000000 in
theorem step_nN {k p q : Int} {g : Bool} {A C : Option Addr} {n c m d : Nat} {r : Int} {u : Value} {x : JV} (w : World) (hL : Hid (Lai w)) (hn : Hid (NV w u x)) (hv : Hid (Vld w (Value.agg #[.int .i64 k, .int .i64 p, .int .i64 q, .bool g, .slice A n c, .slice C m d, .int .i64 r]) u)) {y : Int} {a b : Int} (hJ : Hid (numJ x = ⟨a, b, 0⟩)) (nb : ∀ z, x ≠ .big z) (y1n : (y != 1) = true) (y2n : (y != -1) = true) : Calls Tryz.prog 35 #[Value.agg #[.int .i64 k, .int .i64 p, .int .i64 q, .bool g, .slice A n c, .slice C m d, .int .i64 r], .int .i64 y] w (fun e w' => e = .returned (.tuple #[Value.agg #[.int .i64 0, .int .i64 0, .int .i64 0, .bool false, .slice none 0 0, .slice none 0 0, .int .i64 0], .int .i64 3]) ∧ Plus w w') := by
  go_enter Tryz.func35, Tryz.ntmps35
  go_wp2_with (go_at_call 12; (with_reducible refine (cnumeric_y hJ nb _ (hL.out.plus (by repeat' (first | exact Plus.refl _ | refine Plus.alloc ?_ _ | refine Plus.plus ?_ _ | refine Plus.drew ?_ | refine Plus.drewN ?_ _))) (hn.out.plus (by repeat' (first | exact Plus.refl _ | refine Plus.alloc ?_ _ | refine Plus.plus ?_ _ | refine Plus.drew ?_ | refine Plus.drewN ?_ _))) (hv.out.plus (by repeat' (first | exact Plus.refl _ | refine Plus.alloc ?_ _ | refine Plus.plus ?_ _ | refine Plus.drew ?_ | refine Plus.drewN ?_ _)))).mono ?_); rintro e w1 ⟨rfl, ⟨y1, rfl⟩⟩)
  go_returns
  exact ⟨rfl, (by repeat' (first | exact Plus.refl _ | refine Plus.alloc ?_ _ | refine Plus.plus ?_ _ | refine Plus.drew ?_ | refine Plus.drewN ?_ _))⟩
set_option maxRecDepth 100000 in
set_option maxHeartbeats 4000000 in
theorem step_nB {k p q : Int} {g : Bool} {A C : Option Addr} {n c m d : Nat} {r : Int} {u : Value} {z : Int} (w : World) (hn : Hid (NV w u (.big z))) (hv : Hid (Vld w (Value.agg #[.int .i64 k, .int .i64 p, .int .i64 q, .bool g, .slice A n c, .slice C m d, .int .i64 r]) u)) {y : Int} (y1n : (y != 1) = true) (y2n : (y != -1) = true) : Calls Tryz.prog 35 #[Value.agg #[.int .i64 k, .int .i64 p, .int .i64 q, .bool g, .slice A n c, .slice C m d, .int .i64 r], .int .i64 y] w (fun e w' => e = .returned (.tuple #[Value.agg #[.int .i64 0, .int .i64 0, .int .i64 0, .bool false, .slice none 0 0, .slice none 0 0, .int .i64 0], .int .i64 3]) ∧ Plus w w') := by
  go_enter Tryz.func35, Tryz.ntmps35
  go_wp2_with (go_at_call 12; (with_reducible refine (cnumeric_u _ (hn.out.plus (by repeat' (first | exact Plus.refl _ | refine Plus.alloc ?_ _ | refine Plus.plus ?_ _ | refine Plus.drew ?_ | refine Plus.drewN ?_ _))) (hv.out.plus (by repeat' (first | exact Plus.refl _ | refine Plus.alloc ?_ _ | refine Plus.plus ?_ _ | refine Plus.drew ?_ | refine Plus.drewN ?_ _)))).mono ?_); rintro e w1 ⟨ga1, Aa1, xsa1, na1, ca1, rfl, hBa, ⟨y1, rfl⟩⟩; have HBa := Lib.hid hBa; clear hBa)
  go_returns
  exact ⟨rfl, (by repeat' (first | exact Plus.refl _ | refine Plus.alloc ?_ _ | refine Plus.plus ?_ _ | refine Plus.drew ?_ | refine Plus.drewN ?_ _))⟩
set_option maxRecDepth 100000 in
set_option maxHeartbeats 4000000 in
theorem step_Np {k p q : Int} {g : Bool} {A C : Option Addr} {n c m d : Nat} {r : Int} {u : Value} {x : JV} (w : World) (hL : Hid (Lai w)) (hn : Hid (NV w u x)) (hv : Hid (Vld w (Value.agg #[.int .i64 k, .int .i64 p, .int .i64 q, .bool g, .slice A n c, .slice C m d, .int .i64 r]) u)) {a b : Int} (hJ : Hid (numJ x = ⟨a, b, 0⟩)) (nb : ∀ z, x ≠ .big z) {F : Value → Int → World → Prop} (hS : Stab F) (H : ∀ w1, Plus w w1 → Calls Tryz.prog 92 #[.string ⟨#[43]⟩, .agg #[.int .i64 a, .int .i64 b], .agg #[.int .i64 0, .int .i64 1]] w1 (RetF F w1)) : Calls Tryz.prog 35 #[Value.agg #[.int .i64 k, .int .i64 p, .int .i64 q, .bool g, .slice A n c, .slice C m d, .int .i64 r], .int .i64 1] w (RetF F w) := by
  go_enter Tryz.func35, Tryz.ntmps35
  go_wp2_with (first | (go_at_call 12; (with_reducible refine (cnumeric_y hJ nb _ (hL.out.plus (by repeat' (first | exact Plus.refl _ | refine Plus.alloc ?_ _ | refine Plus.plus ?_ _ | refine Plus.drew ?_ | refine Plus.drewN ?_ _))) (hn.out.plus (by repeat' (first | exact Plus.refl _ | refine Plus.alloc ?_ _ | refine Plus.plus ?_ _ | refine Plus.drew ?_ | refine Plus.drewN ?_ _))) (hv.out.plus (by repeat' (first | exact Plus.refl _ | refine Plus.alloc ?_ _ | refine Plus.plus ?_ _ | refine Plus.drew ?_ | refine Plus.drewN ?_ _)))).mono ?_); rintro e w1 ⟨rfl, ⟨y1, rfl⟩⟩) | (go_at_call 92; (with_reducible refine (H _ (by repeat' (first | exact Plus.refl _ | refine Plus.alloc ?_ _ | refine Plus.plus ?_ _ | refine Plus.drew ?_ | refine Plus.drewN ?_ _))).mono ?_); rintro e w1 ⟨k9, p9, q9, g9, A9, C9, n9, c9, m9, d9, r9, s9, rfl, hF, ⟨x9, rfl⟩⟩; have HF := Lib.hid hF; clear hF))
  go_returns
  exact ⟨_, _, _, _, _, _, _, _, _, _, _, _, rfl, hS _ _ _ _ HF.out (by repeat (first | (refine Offp.of ?_; (repeat' (first | exact Offs.refl _ | refine Offs.plus ?_ _ | refine Offs.alloc ?_ _ | exact Offs.allocN (Offs.refl _) (nuV _ _ _ _ _ _ _ _ _ _ _ _) | refine Offs.allocN ?_ (nuV _ _ _ _ _ _ _ _ _ _ _ _) | refine Offs.allocN ?_ (nuB _ _ _ _ _) | refine Offs.allocN ?_ (nuN _ _ _) | refine Offs.drew ?_ | refine Offs.drewL ?_ | refine Offs.drewR ?_)); done) | refine Offp.plusR ?_ _ | refine Offp.allocR ?_ _ | refine Offp.drewR ?_)), (by repeat' (first | exact Plus.refl _ | refine Plus.alloc ?_ _ | refine Plus.plus ?_ _ | refine Plus.drew ?_ | refine Plus.drewN ?_ _))⟩
set_option maxRecDepth 100000 in
set_option maxHeartbeats 4000000 in
theorem step_Bp {k p q : Int} {g : Bool} {A C : Option Addr} {n c m d : Nat} {r : Int} {u : Value} {z : Int} (w : World) (hn : Hid (NV w u (.big z))) (hv : Hid (Vld w (Value.agg #[.int .i64 k, .int .i64 p, .int .i64 q, .bool g, .slice A n c, .slice C m d, .int .i64 r]) u)) {pb : Bool} {us : List Nat} (hO : Hid (Bg.OfN 1 1 pb us)) {F : Value → Int → World → Prop} (hS : Stab F) (HB : ∀ (g1 g2 : Bool) (A1 A2 : Option Addr) (xs1 xs2 : List Nat) (n1 c1 n2 c2 : Nat) (w1 : World), Plus w w1 → BgV g1 A1 xs1 n1 c1 z w1 → BgV g2 A2 xs2 n2 c2 1 w1 → Calls Tryz.prog 91 #[.string ⟨#[43]⟩, .agg #[.bool g1, .slice A1 n1 c1], .agg #[.bool g2, .slice A2 n2 c2]] w1 (RetF F w1)) : Calls Tryz.prog 35 #[Value.agg #[.int .i64 k, .int .i64 p, .int .i64 q, .bool g, .slice A n c, .slice C m d, .int .i64 r], .int .i64 1] w (RetF F w) := by
  go_enter Tryz.func35, Tryz.ntmps35
  go_wp2_with (go_at_call 12; (with_reducible refine (cnumeric_u _ (hn.out.plus (by repeat' (first | exact Plus.refl _ | refine Plus.alloc ?_ _ | refine Plus.plus ?_ _ | refine Plus.drew ?_ | refine Plus.drewN ?_ _))) (hv.out.plus (by repeat' (first | exact Plus.refl _ | refine Plus.alloc ?_ _ | refine Plus.plus ?_ _ | refine Plus.drew ?_ | refine Plus.drewN ?_ _)))).mono ?_); rintro e w1 ⟨ga1, Aa1, xsa1, na1, ca1, rfl, hBa, ⟨y1, rfl⟩⟩; have HBa := Lib.hid hBa; clear hBa)
  go_region_with (first | (go_at_call 51; (with_reducible refine (bof_q hO _).mono ?_); rintro e w1 ⟨A2, c2, rfl, hA, ⟨x1, rfl⟩⟩; have HA := Lib.hid hA; clear hA) | (go_at_call 91; (with_reducible refine (HB _ _ _ _ xsa1 us _ _ _ _ _ (by repeat' (first | exact Plus.refl _ | refine Plus.alloc ?_ _ | refine Plus.plus ?_ _ | refine Plus.drew ?_ | refine Plus.drewN ?_ _)) (HBa.out.offs (by repeat (first | (refine Offp.of ?_; (repeat' (first | exact Offs.refl _ | refine Offs.plus ?_ _ | refine Offs.alloc ?_ _ | exact Offs.allocN (Offs.refl _) (nuV _ _ _ _ _ _ _ _ _ _ _ _) | refine Offs.allocN ?_ (nuV _ _ _ _ _ _ _ _ _ _ _ _) | refine Offs.allocN ?_ (nuB _ _ _ _ _) | refine Offs.allocN ?_ (nuN _ _ _) | refine Offs.drew ?_ | refine Offs.drewL ?_ | refine Offs.drewR ?_)); done) | refine Offp.plusR ?_ _ | refine Offp.allocR ?_ _ | refine Offp.drewR ?_))) (HA.out.offs (by repeat (first | (refine Offp.of ?_; (repeat' (first | exact Offs.refl _ | refine Offs.plus ?_ _ | refine Offs.alloc ?_ _ | exact Offs.allocN (Offs.refl _) (nuV _ _ _ _ _ _ _ _ _ _ _ _) | refine Offs.allocN ?_ (nuV _ _ _ _ _ _ _ _ _ _ _ _) | refine Offs.allocN ?_ (nuB _ _ _ _ _) | refine Offs.allocN ?_ (nuN _ _ _) | refine Offs.drew ?_ | refine Offs.drewL ?_ | refine Offs.drewR ?_)); done) | refine Offp.plusR ?_ _ | refine Offp.allocR ?_ _ | refine Offp.drewR ?_)))).mono ?_); rintro e w1 ⟨k9, p9, q9, g9, A9, C9, n9, c9, m9, d9, r9, s9, rfl, hF, ⟨x9, rfl⟩⟩; have HF := Lib.hid hF; clear hF))
  all_goals
    go_wp2_with fail
    go_returns
    exact ⟨_, _, _, _, _, _, _, _, _, _, _, _, rfl, hS _ _ _ _ HF.out (by repeat (first | (refine Offp.of ?_; (repeat' (first | exact Offs.refl _ | refine Offs.plus ?_ _ | refine Offs.alloc ?_ _ | exact Offs.allocN (Offs.refl _) (nuV _ _ _ _ _ _ _ _ _ _ _ _) | refine Offs.allocN ?_ (nuV _ _ _ _ _ _ _ _ _ _ _ _) | refine Offs.allocN ?_ (nuB _ _ _ _ _) | refine Offs.allocN ?_ (nuN _ _ _) | refine Offs.drew ?_ | refine Offs.drewL ?_ | refine Offs.drewR ?_)); done) | refine Offp.plusR ?_ _ | refine Offp.allocR ?_ _ | refine Offp.drewR ?_)), (by repeat' (first | exact Plus.refl _ | refine Plus.alloc ?_ _ | refine Plus.plus ?_ _ | refine Plus.drew ?_ | refine Plus.drewN ?_ _))⟩
set_option maxRecDepth 100000 in
set_option maxHeartbeats 4000000 in
theorem step_Nm {k p q : Int} {g : Bool} {A C : Option Addr} {n c m d : Nat} {r : Int} {u : Value} {x : JV} (w : World) (hL : Hid (Lai w)) (hn : Hid (NV w u x)) (hv : Hid (Vld w (Value.agg #[.int .i64 k, .int .i64 p, .int .i64 q, .bool g, .slice A n c, .slice C m d, .int .i64 r]) u)) {a b : Int} (hJ : Hid (numJ x = ⟨a, b, 0⟩)) (nb : ∀ z, x ≠ .big z) {F : Value → Int → World → Prop} (hS : Stab F) (H : ∀ w1, Plus w w1 → Calls Tryz.prog 92 #[.string ⟨#[43]⟩, .agg #[.int .i64 a, .int .i64 b], .agg #[.int .i64 0, .int .i64 (-1)]] w1 (RetF F w1)) : Calls Tryz.prog 35 #[Value.agg #[.int .i64 k, .int .i64 p, .int .i64 q, .bool g, .slice A n c, .slice C m d, .int .i64 r], .int .i64 (-1)] w (RetF F w) := by
  go_enter Tryz.func35, Tryz.ntmps35
  go_wp2_with (first | (go_at_call 12; (with_reducible refine (cnumeric_y hJ nb _ (hL.out.plus (by repeat' (first | exact Plus.refl _ | refine Plus.alloc ?_ _ | refine Plus.plus ?_ _ | refine Plus.drew ?_ | refine Plus.drewN ?_ _))) (hn.out.plus (by repeat' (first | exact Plus.refl _ | refine Plus.alloc ?_ _ | refine Plus.plus ?_ _ | refine Plus.drew ?_ | refine Plus.drewN ?_ _))) (hv.out.plus (by repeat' (first | exact Plus.refl _ | refine Plus.alloc ?_ _ | refine Plus.plus ?_ _ | refine Plus.drew ?_ | refine Plus.drewN ?_ _)))).mono ?_); rintro e w1 ⟨rfl, ⟨y1, rfl⟩⟩) | (go_at_call 92; (with_reducible refine (H _ (by repeat' (first | exact Plus.refl _ | refine Plus.alloc ?_ _ | refine Plus.plus ?_ _ | refine Plus.drew ?_ | refine Plus.drewN ?_ _))).mono ?_); rintro e w1 ⟨k9, p9, q9, g9, A9, C9, n9, c9, m9, d9, r9, s9, rfl, hF, ⟨x9, rfl⟩⟩; have HF := Lib.hid hF; clear hF))
  go_returns
  exact ⟨_, _, _, _, _, _, _, _, _, _, _, _, rfl, hS _ _ _ _ HF.out (by repeat (first | (refine Offp.of ?_; (repeat' (first | exact Offs.refl _ | refine Offs.plus ?_ _ | refine Offs.alloc ?_ _ | exact Offs.allocN (Offs.refl _) (nuV _ _ _ _ _ _ _ _ _ _ _ _) | refine Offs.allocN ?_ (nuV _ _ _ _ _ _ _ _ _ _ _ _) | refine Offs.allocN ?_ (nuB _ _ _ _ _) | refine Offs.allocN ?_ (nuN _ _ _) | refine Offs.drew ?_ | refine Offs.drewL ?_ | refine Offs.drewR ?_)); done) | refine Offp.plusR ?_ _ | refine Offp.allocR ?_ _ | refine Offp.drewR ?_)), (by repeat' (first | exact Plus.refl _ | refine Plus.alloc ?_ _ | refine Plus.plus ?_ _ | refine Plus.drew ?_ | refine Plus.drewN ?_ _))⟩
set_option maxRecDepth 100000 in
set_option maxHeartbeats 4000000 in
theorem step_Bm {k p q : Int} {g : Bool} {A C : Option Addr} {n c m d : Nat} {r : Int} {u : Value} {z : Int} (w : World) (hn : Hid (NV w u (.big z))) (hv : Hid (Vld w (Value.agg #[.int .i64 k, .int .i64 p, .int .i64 q, .bool g, .slice A n c, .slice C m d, .int .i64 r]) u)) {pb : Bool} {us : List Nat} (hO : Hid (Bg.OfN (-1) (-1) pb us)) {F : Value → Int → World → Prop} (hS : Stab F) (HB : ∀ (g1 g2 : Bool) (A1 A2 : Option Addr) (xs1 xs2 : List Nat) (n1 c1 n2 c2 : Nat) (w1 : World), Plus w w1 → BgV g1 A1 xs1 n1 c1 z w1 → BgV g2 A2 xs2 n2 c2 (-1) w1 → Calls Tryz.prog 91 #[.string ⟨#[43]⟩, .agg #[.bool g1, .slice A1 n1 c1], .agg #[.bool g2, .slice A2 n2 c2]] w1 (RetF F w1)) : Calls Tryz.prog 35 #[Value.agg #[.int .i64 k, .int .i64 p, .int .i64 q, .bool g, .slice A n c, .slice C m d, .int .i64 r], .int .i64 (-1)] w (RetF F w) := by
  go_enter Tryz.func35, Tryz.ntmps35
  go_wp2_with (go_at_call 12; (with_reducible refine (cnumeric_u _ (hn.out.plus (by repeat' (first | exact Plus.refl _ | refine Plus.alloc ?_ _ | refine Plus.plus ?_ _ | refine Plus.drew ?_ | refine Plus.drewN ?_ _))) (hv.out.plus (by repeat' (first | exact Plus.refl _ | refine Plus.alloc ?_ _ | refine Plus.plus ?_ _ | refine Plus.drew ?_ | refine Plus.drewN ?_ _)))).mono ?_); rintro e w1 ⟨ga1, Aa1, xsa1, na1, ca1, rfl, hBa, ⟨y1, rfl⟩⟩; have HBa := Lib.hid hBa; clear hBa)
  go_region_with (first | (go_at_call 51; (with_reducible refine (bof_q hO _).mono ?_); rintro e w1 ⟨A2, c2, rfl, hA, ⟨x1, rfl⟩⟩; have HA := Lib.hid hA; clear hA) | (go_at_call 91; (with_reducible refine (HB _ _ _ _ xsa1 us _ _ _ _ _ (by repeat' (first | exact Plus.refl _ | refine Plus.alloc ?_ _ | refine Plus.plus ?_ _ | refine Plus.drew ?_ | refine Plus.drewN ?_ _)) (HBa.out.offs (by repeat (first | (refine Offp.of ?_; (repeat' (first | exact Offs.refl _ | refine Offs.plus ?_ _ | refine Offs.alloc ?_ _ | exact Offs.allocN (Offs.refl _) (nuV _ _ _ _ _ _ _ _ _ _ _ _) | refine Offs.allocN ?_ (nuV _ _ _ _ _ _ _ _ _ _ _ _) | refine Offs.allocN ?_ (nuB _ _ _ _ _) | refine Offs.allocN ?_ (nuN _ _ _) | refine Offs.drew ?_ | refine Offs.drewL ?_ | refine Offs.drewR ?_)); done) | refine Offp.plusR ?_ _ | refine Offp.allocR ?_ _ | refine Offp.drewR ?_))) (HA.out.offs (by repeat (first | (refine Offp.of ?_; (repeat' (first | exact Offs.refl _ | refine Offs.plus ?_ _ | refine Offs.alloc ?_ _ | exact Offs.allocN (Offs.refl _) (nuV _ _ _ _ _ _ _ _ _ _ _ _) | refine Offs.allocN ?_ (nuV _ _ _ _ _ _ _ _ _ _ _ _) | refine Offs.allocN ?_ (nuB _ _ _ _ _) | refine Offs.allocN ?_ (nuN _ _ _) | refine Offs.drew ?_ | refine Offs.drewL ?_ | refine Offs.drewR ?_)); done) | refine Offp.plusR ?_ _ | refine Offp.allocR ?_ _ | refine Offp.drewR ?_)))).mono ?_); rintro e w1 ⟨k9, p9, q9, g9, A9, C9, n9, c9, m9, d9, r9, s9, rfl, hF, ⟨x9, rfl⟩⟩; have HF := Lib.hid hF; clear hF))
  all_goals
    go_wp2_with fail
    go_returns
    exact ⟨_, _, _, _, _, _, _, _, _, _, _, _, rfl, hS _ _ _ _ HF.out (by repeat (first | (refine Offp.of ?_; (repeat' (first | exact Offs.refl _ | refine Offs.plus ?_ _ | refine Offs.alloc ?_ _ | exact Offs.allocN (Offs.refl _) (nuV _ _ _ _ _ _ _ _ _ _ _ _) | refine Offs.allocN ?_ (nuV _ _ _ _ _ _ _ _ _ _ _ _) | refine Offs.allocN ?_ (nuB _ _ _ _ _) | refine Offs.allocN ?_ (nuN _ _ _) | refine Offs.drew ?_ | refine Offs.drewL ?_ | refine Offs.drewR ?_)); done) | refine Offp.plusR ?_ _ | refine Offp.allocR ?_ _ | refine Offp.drewR ?_)), (by repeat' (first | exact Plus.refl _ | refine Plus.alloc ?_ _ | refine Plus.plus ?_ _ | refine Plus.drew ?_ | refine Plus.drewN ?_ _))⟩
end Go.Proofs.YtakahpbondaidaaGreatDoor
namespace Go.Proofs.YtakahpbondaidaaGreatDoor
open Go.RowKit

set_option maxRecDepth 100000 in
set_option maxHeartbeats 4000000 in
theorem un_not_t {k p q : Int} {g : Bool} {A C : Option Addr} {n c m d : Nat} {r : Int} {u : Value} {x : JV} (w : World) (hn : Hid (NV w u x)) (hv : Hid (Vld w (Value.agg #[.int .i64 k, .int .i64 p, .int .i64 q, .bool g, .slice A n c, .slice C m d, .int .i64 r]) u)) (hJ : Hid (boolJ x = true)) : Calls Tryz.prog 33 #[.string ⟨#[33]⟩, Value.agg #[.int .i64 k, .int .i64 p, .int .i64 q, .bool g, .slice A n c, .slice C m d, .int .i64 r]] w (fun e w' => e = .returned (.tuple #[Value.agg #[.int .i64 2, .int .i64 0, .int .i64 0, .bool false, .slice none 0 0, .slice none 0 0, .int .i64 0], .int .i64 0]) ∧ Plus w w') := by
  go_enter Tryz.func33, Tryz.ntmps33
  go_wp2_with (first | (go_at_call 24; (with_reducible refine (cbool_v hJ _ (hn.out.plus (by repeat' (first | exact Plus.refl _ | refine Plus.alloc ?_ _ | refine Plus.plus ?_ _ | refine Plus.drew ?_ | refine Plus.drewN ?_ _))) (hv.out.plus (by repeat' (first | exact Plus.refl _ | refine Plus.alloc ?_ _ | refine Plus.plus ?_ _ | refine Plus.drew ?_ | refine Plus.drewN ?_ _)))).mono ?_); rintro e w1 ⟨rfl, ⟨y1, rfl⟩⟩) | (go_at_call 39; (with_reducible refine (truth_f _).mono ?_); rintro e w1 ⟨rfl, ⟨y2, rfl⟩⟩))
  go_returns
  exact ⟨rfl, (by repeat' (first | exact Plus.refl _ | refine Plus.alloc ?_ _ | refine Plus.plus ?_ _ | refine Plus.drew ?_ | refine Plus.drewN ?_ _))⟩
set_option maxRecDepth 100000 in
set_option maxHeartbeats 4000000 in
theorem un_not_f {k p q : Int} {g : Bool} {A C : Option Addr} {n c m d : Nat} {r : Int} {u : Value} {x : JV} (w : World) (hn : Hid (NV w u x)) (hv : Hid (Vld w (Value.agg #[.int .i64 k, .int .i64 p, .int .i64 q, .bool g, .slice A n c, .slice C m d, .int .i64 r]) u)) (hJ : Hid (boolJ x = false)) : Calls Tryz.prog 33 #[.string ⟨#[33]⟩, Value.agg #[.int .i64 k, .int .i64 p, .int .i64 q, .bool g, .slice A n c, .slice C m d, .int .i64 r]] w (fun e w' => e = .returned (.tuple #[Value.agg #[.int .i64 2, .int .i64 0, .int .i64 0, .bool false, .slice none 0 0, .slice none 0 0, .int .i64 1], .int .i64 0]) ∧ Plus w w') := by
  go_enter Tryz.func33, Tryz.ntmps33
  go_wp2_with (first | (go_at_call 24; (with_reducible refine (cbool_v hJ _ (hn.out.plus (by repeat' (first | exact Plus.refl _ | refine Plus.alloc ?_ _ | refine Plus.plus ?_ _ | refine Plus.drew ?_ | refine Plus.drewN ?_ _))) (hv.out.plus (by repeat' (first | exact Plus.refl _ | refine Plus.alloc ?_ _ | refine Plus.plus ?_ _ | refine Plus.drew ?_ | refine Plus.drewN ?_ _)))).mono ?_); rintro e w1 ⟨rfl, ⟨y1, rfl⟩⟩) | (go_at_call 39; (with_reducible refine (truth_t _).mono ?_); rintro e w1 ⟨rfl, ⟨y2, rfl⟩⟩))
  go_returns
  exact ⟨rfl, (by repeat' (first | exact Plus.refl _ | refine Plus.alloc ?_ _ | refine Plus.plus ?_ _ | refine Plus.drew ?_ | refine Plus.drewN ?_ _))⟩
set_option maxRecDepth 100000 in
set_option maxHeartbeats 4000000 in
theorem un_void {k p q : Int} {g : Bool} {A C : Option Addr} {n c m d : Nat} {r : Int} (w : World) : Calls Tryz.prog 33 #[.string ⟨#[118, 111, 105, 100]⟩, Value.agg #[.int .i64 k, .int .i64 p, .int .i64 q, .bool g, .slice A n c, .slice C m d, .int .i64 r]] w (fun e w' => e = .returned (.tuple #[Value.agg #[.int .i64 0, .int .i64 0, .int .i64 0, .bool false, .slice none 0 0, .slice none 0 0, .int .i64 0], .int .i64 0]) ∧ Plus w w') := by
  go_enter Tryz.func33, Tryz.ntmps33
  go_wp2_with fail
  go_returns
  exact ⟨rfl, (by repeat' (first | exact Plus.refl _ | refine Plus.alloc ?_ _ | refine Plus.plus ?_ _ | refine Plus.drew ?_ | refine Plus.drewN ?_ _))⟩
set_option maxRecDepth 100000 in
set_option maxHeartbeats 4000000 in
theorem un_pos {k p q : Int} {g : Bool} {A C : Option Addr} {n c m d : Nat} {r : Int} (w : World) {F : Value → Int → World → Prop} (hS : Stab F) (H : ∀ w1, Plus w w1 → Calls Tryz.prog 84 #[Value.agg #[.int .i64 k, .int .i64 p, .int .i64 q, .bool g, .slice A n c, .slice C m d, .int .i64 r]] w1 (RetF F w1)) : Calls Tryz.prog 33 #[.string ⟨#[43]⟩, Value.agg #[.int .i64 k, .int .i64 p, .int .i64 q, .bool g, .slice A n c, .slice C m d, .int .i64 r]] w (RetF F w) := by
  go_enter Tryz.func33, Tryz.ntmps33
  go_wp2_with (go_at_call 84; (with_reducible refine (H _ (by repeat' (first | exact Plus.refl _ | refine Plus.alloc ?_ _ | refine Plus.plus ?_ _ | refine Plus.drew ?_ | refine Plus.drewN ?_ _))).mono ?_); rintro e w1 ⟨k9, p9, q9, g9, A9, C9, n9, c9, m9, d9, r9, s9, rfl, hF, ⟨x9, rfl⟩⟩; have HF := Lib.hid hF; clear hF)
  go_returns
  exact ⟨_, _, _, _, _, _, _, _, _, _, _, _, rfl, hS _ _ _ _ HF.out (by repeat (first | (refine Offp.of ?_; (repeat' (first | exact Offs.refl _ | refine Offs.plus ?_ _ | refine Offs.alloc ?_ _ | exact Offs.allocN (Offs.refl _) (nuV _ _ _ _ _ _ _ _ _ _ _ _) | refine Offs.allocN ?_ (nuV _ _ _ _ _ _ _ _ _ _ _ _) | refine Offs.allocN ?_ (nuB _ _ _ _ _) | refine Offs.allocN ?_ (nuN _ _ _) | refine Offs.drew ?_ | refine Offs.drewL ?_ | refine Offs.drewR ?_)); done) | refine Offp.plusR ?_ _ | refine Offp.allocR ?_ _ | refine Offp.drewR ?_)), (by repeat' (first | exact Plus.refl _ | refine Plus.alloc ?_ _ | refine Plus.plus ?_ _ | refine Plus.drew ?_ | refine Plus.drewN ?_ _))⟩
set_option maxRecDepth 100000 in
set_option maxHeartbeats 4000000 in
theorem un_neg {k p q : Int} {g : Bool} {A C : Option Addr} {n c m d : Nat} {r : Int} (w : World) {F : Value → Int → World → Prop} (hS : Stab F) (H : ∀ w1, Plus w w1 → Calls Tryz.prog 85 #[Value.agg #[.int .i64 k, .int .i64 p, .int .i64 q, .bool g, .slice A n c, .slice C m d, .int .i64 r]] w1 (RetF F w1)) : Calls Tryz.prog 33 #[.string ⟨#[45]⟩, Value.agg #[.int .i64 k, .int .i64 p, .int .i64 q, .bool g, .slice A n c, .slice C m d, .int .i64 r]] w (RetF F w) := by
  go_enter Tryz.func33, Tryz.ntmps33
  go_wp2_with (go_at_call 85; (with_reducible refine (H _ (by repeat' (first | exact Plus.refl _ | refine Plus.alloc ?_ _ | refine Plus.plus ?_ _ | refine Plus.drew ?_ | refine Plus.drewN ?_ _))).mono ?_); rintro e w1 ⟨k9, p9, q9, g9, A9, C9, n9, c9, m9, d9, r9, s9, rfl, hF, ⟨x9, rfl⟩⟩; have HF := Lib.hid hF; clear hF)
  go_returns
  exact ⟨_, _, _, _, _, _, _, _, _, _, _, _, rfl, hS _ _ _ _ HF.out (by repeat (first | (refine Offp.of ?_; (repeat' (first | exact Offs.refl _ | refine Offs.plus ?_ _ | refine Offs.alloc ?_ _ | exact Offs.allocN (Offs.refl _) (nuV _ _ _ _ _ _ _ _ _ _ _ _) | refine Offs.allocN ?_ (nuV _ _ _ _ _ _ _ _ _ _ _ _) | refine Offs.allocN ?_ (nuB _ _ _ _ _) | refine Offs.allocN ?_ (nuN _ _ _) | refine Offs.drew ?_ | refine Offs.drewL ?_ | refine Offs.drewR ?_)); done) | refine Offp.plusR ?_ _ | refine Offp.allocR ?_ _ | refine Offp.drewR ?_)), (by repeat' (first | exact Plus.refl _ | refine Plus.alloc ?_ _ | refine Plus.plus ?_ _ | refine Plus.drew ?_ | refine Plus.drewN ?_ _))⟩
set_option maxRecDepth 100000 in
set_option maxHeartbeats 4000000 in
theorem un_inv {k p q : Int} {g : Bool} {A C : Option Addr} {n c m d : Nat} {r : Int} (w : World) {F : Value → Int → World → Prop} (hS : Stab F) (H : ∀ w1, Plus w w1 → Calls Tryz.prog 86 #[Value.agg #[.int .i64 k, .int .i64 p, .int .i64 q, .bool g, .slice A n c, .slice C m d, .int .i64 r]] w1 (RetF F w1)) : Calls Tryz.prog 33 #[.string ⟨#[126]⟩, Value.agg #[.int .i64 k, .int .i64 p, .int .i64 q, .bool g, .slice A n c, .slice C m d, .int .i64 r]] w (RetF F w) := by
  go_enter Tryz.func33, Tryz.ntmps33
  go_wp2_with (go_at_call 86; (with_reducible refine (H _ (by repeat' (first | exact Plus.refl _ | refine Plus.alloc ?_ _ | refine Plus.plus ?_ _ | refine Plus.drew ?_ | refine Plus.drewN ?_ _))).mono ?_); rintro e w1 ⟨k9, p9, q9, g9, A9, C9, n9, c9, m9, d9, r9, s9, rfl, hF, ⟨x9, rfl⟩⟩; have HF := Lib.hid hF; clear hF)
  go_returns
  exact ⟨_, _, _, _, _, _, _, _, _, _, _, _, rfl, hS _ _ _ _ HF.out (by repeat (first | (refine Offp.of ?_; (repeat' (first | exact Offs.refl _ | refine Offs.plus ?_ _ | refine Offs.alloc ?_ _ | exact Offs.allocN (Offs.refl _) (nuV _ _ _ _ _ _ _ _ _ _ _ _) | refine Offs.allocN ?_ (nuV _ _ _ _ _ _ _ _ _ _ _ _) | refine Offs.allocN ?_ (nuB _ _ _ _ _) | refine Offs.allocN ?_ (nuN _ _ _) | refine Offs.drew ?_ | refine Offs.drewL ?_ | refine Offs.drewR ?_)); done) | refine Offp.plusR ?_ _ | refine Offp.allocR ?_ _ | refine Offp.drewR ?_)), (by repeat' (first | exact Plus.refl _ | refine Plus.alloc ?_ _ | refine Plus.plus ?_ _ | refine Plus.drew ?_ | refine Plus.drewN ?_ _))⟩
set_option maxRecDepth 100000 in
set_option maxHeartbeats 4000000 in
theorem un_none {op : ByteArray} {k p q : Int} {g : Bool} {A C : Option Addr} {n c m d : Nat} {r : Int} (w : World) (b0 : (op.toList == [33]) = false) (b1 : (op.toList == [118, 111, 105, 100]) = false) (b2 : (op.toList == [43]) = false) (b3 : (op.toList == [45]) = false) (b4 : (op.toList == [126]) = false) : Calls Tryz.prog 33 #[.string op, Value.agg #[.int .i64 k, .int .i64 p, .int .i64 q, .bool g, .slice A n c, .slice C m d, .int .i64 r]] w (fun e w' => e = .returned (.tuple #[Value.agg #[.int .i64 0, .int .i64 0, .int .i64 0, .bool false, .slice none 0 0, .slice none 0 0, .int .i64 0], .int .i64 3]) ∧ Plus w w') := by
  go_enter Tryz.func33, Tryz.ntmps33
  go_wp2_with fail
  go_returns
  exact ⟨rfl, (by repeat' (first | exact Plus.refl _ | refine Plus.alloc ?_ _ | refine Plus.plus ?_ _ | refine Plus.drew ?_ | refine Plus.drewN ?_ _))⟩
end Go.Proofs.YtakahpbondaidaaGreatDoor
namespace Go.Proofs.YtakahpbondaidaaGreatDoor
open Go.RowKit

def opsL : List ByteArray := [⟨#[43]⟩, ⟨#[45]⟩, ⟨#[42]⟩, ⟨#[47]⟩, ⟨#[37]⟩, ⟨#[38]⟩, ⟨#[124]⟩, ⟨#[94]⟩, ⟨#[60, 60]⟩, ⟨#[62, 62]⟩, ⟨#[62, 62, 62]⟩, ⟨#[60]⟩, ⟨#[62]⟩, ⟨#[60, 61]⟩, ⟨#[62, 61]⟩, ⟨#[61, 61]⟩, ⟨#[33, 61]⟩, ⟨#[61, 61, 61]⟩, ⟨#[33, 61, 61]⟩]
/-- A row of texts. -/
def SR (w : World) (g : Nat) (ss : List ByteArray) : Prop := g < w.heap.size ∧ ∀ (j : Nat) (hj : j < ss.length), w.cell? ⟨g, j, none⟩ = some (.string ss[j])
theorem SR.plus {w w' : World} {g : Nat} {ss : List ByteArray} (h : SR w g ss) (hp : Plus w w') : SR w' g ss := ⟨Nat.lt_of_lt_of_le h.1 hp.below.size, fun j hj => cell_plus (h.2 j hj) hp⟩
theorem SR.offp {w w' : World} {g : Nat} {ss : List ByteArray} (h : SR w g ss) (hp : Plus w w') : SR w' g ss := h.plus hp
theorem SR.new (w : World) (ss : List ByteArray) (t : TypeId) : SR (w.alloc (.cells (ss.map Value.string).toArray t)) w.heap.size ss := ⟨by rw [World.size_alloc]; omega, fun j hj => by
  have h := news_at w (ss.map Value.string) t j (.string ss[j]) (by rw [List.getElem?_map, List.getElem?_eq_getElem hj]; rfl)
  rw [add_addr, Nat.zero_add] at h
  exact h⟩
set_option maxRecDepth 100000 in
set_option maxHeartbeats 4000000 in
theorem ops_c (w : World) : Calls Tryz.prog 82 #[] w fun e w' => ∃ g, e = .returned (.slice (some ⟨g, 0, none⟩) 19 19) ∧ SR w' g opsL ∧ Plus w w' := by
  go_enter Tryz.func82, Tryz.ntmps82
  go_wp2_with fail
  go_returns
  exact ⟨_, rfl, SR.new w opsL 9, (by repeat' (first | exact Plus.refl _ | refine Plus.alloc ?_ _ | refine Plus.plus ?_ _ | refine Plus.drew ?_ | refine Plus.drewN ?_ _))⟩
set_option maxRecDepth 100000 in
set_option maxHeartbeats 4000000 in
theorem rops_c (w : World) : Calls Tryz.prog 83 #[] w fun e w' => ∃ g, e = .returned (.slice (some ⟨g, 0, none⟩) 19 19) ∧ SR w' g opsL ∧ Plus w w' := by
  go_enter Tryz.func83, Tryz.ntmps83
  go_wp2_with fail
  go_returns
  exact ⟨_, rfl, SR.new w opsL 9, (by repeat' (first | exact Plus.refl _ | refine Plus.alloc ?_ _ | refine Plus.plus ?_ _ | refine Plus.drew ?_ | refine Plus.drewN ?_ _))⟩
def TxRel (n : Nat) (s5 : Value) : Prop := ∃ k : Nat, k ≤ n ∧ s5 = .int .i64 k
set_option maxRecDepth 100000 in
set_option maxHeartbeats 4000000 in
theorem texts_c (g h : Nat) (ss : List ByteArray) (n : Nat) (hn : n = ss.length) (hl : n ≤ 1000) (w : World) (h1 : SR w g ss) (h2 : SR w h ss) : Calls Tryz.prog 81 #[.slice (some ⟨g, 0, none⟩) n n, .slice (some ⟨h, 0, none⟩) n n] w fun e w' => e = .returned (.bool true) ∧ Plus w w' := by
  go_enter Tryz.func81, Tryz.ntmps81
  go_wp2
  go_loopw [5] (fun s5 wr => TxRel n s5 ∧ Plus w wr) (fun s5 _ => ((n : Int) - intOf s5).toNat)
  case atStart => exact ⟨⟨0, by omega, rfl⟩, Plus.refl _⟩
  case round =>
    obtain ⟨⟨k, hk, rfl⟩, hp⟩ := hrel
    by_cases hlt : k < n
    · have c1 := (h1.plus hp).2 k (by omega)
      have c2 := (h2.plus hp).2 k (by omega)
      have a1 : (⟨g, 0, none⟩ : Addr).add k = ⟨g, k, none⟩ := by rw [add_addr, Nat.zero_add]
      have a2 : (⟨h, 0, none⟩ : Addr).add k = ⟨h, k, none⟩ := by rw [add_addr, Nat.zero_add]
      obtain ⟨s, hs⟩ : ∃ s, ss[k]'(by omega) = s := ⟨_, rfl⟩
      rw [hs] at c1 c2
      have b1 : (s.toList == s.toList) = true := beq_self_eq_true s.toList
      have HP := Lib.hid hp
      clear hp hs h1 h2
      go_wp2_with fail
      go_quiet (fail)
      go_wp2_with fail
      go_roundw
      case rel => exact ⟨⟨k + 1, hlt, by rw [show ((k + 1 : Nat) : Int) = (k : Int) + 1 by omega]⟩, HP.out.drewN _⟩
      case measure => simp [intOf]; omega
    · obtain rfl : k = n := by omega
      have HP := Lib.hid hp
      clear hp h1 h2
      go_wp2_with fail
      go_ret
      exact ⟨rfl, HP.out⟩
end Go.Proofs.YtakahpbondaidaaGreatDoor
