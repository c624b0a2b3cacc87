/- oper: numerics, operands. -/
import Derived.Test.YtakahpbondaidaaGreatDoorPZN
import Derived.Test.YtakahpbondaidaaGreatDoorPZR
import Derived.Test.YtakahpbondaidaaGreatDoorPA1
import Derived.Test.YtakahpbondaidaaGreatDoorPA3
namespace Go.Proofs.YtakahpbondaidaaGreatDoor
open Go.RowKit

def BgV (g : Bool) (A : Option Addr) (xs : List Nat) (n c : Nat) (z : Int) (w : World) : Prop := Bg.mayL g xs = true ∧ Bg.bigI g xs = z ∧ Bg.Arg w A xs n c
theorem BgV.plus {g : Bool} {A : Option Addr} {xs : List Nat} {n c : Nat} {z : Int} {w w' : World} (h : BgV g A xs n c z w) (hp : Plus w w') : BgV g A xs n c z w' := ⟨h.1, h.2.1, h.2.2.plus hp⟩
theorem BgV.offs {g : Bool} {A : Option Addr} {xs : List Nat} {n c : Nat} {z : Int} {w w' : World} (h : BgV g A xs n c z w) (o : Offp w w') : BgV g A xs n c z w' := ⟨h.1, h.2.1, arg_offp h.2.2 o⟩
theorem BgV.nv {g : Bool} {A : Option Addr} {xs : List Nat} {n c : Nat} {z : Int} {w : World} (h : BgV g A xs n c z w) : NV w (Value.agg #[.int .i64 4, .int .i64 0, .int .i64 0, .bool g, .slice A n c, .slice none 0 0, .int .i64 0]) (.big z) := ⟨g, A, none, xs, n, c, 0, rfl, by omega, h.1, h.2.1, h.2.2⟩
/-- A BigInt, with the signal nought. -/
def RetB (z : Int) (w : World) (e : Ending) (w' : World) : Prop := ∃ (g : Bool) (A : Option Addr) (xs : List Nat) (n c : Nat), e = .returned (.tuple #[Value.agg #[.int .i64 4, .int .i64 0, .int .i64 0, .bool g, .slice A n c, .slice none 0 0, .int .i64 0], .int .i64 0]) ∧ BgV g A xs n c z w' ∧ Plus w w'
theorem RetB.f {z : Int} {w : World} {e : Ending} {w' : World} (h : RetB z w e w') : RetF (FJ (.big z) 0) w e w' := by
  obtain ⟨g, A, xs, n, c, rfl, h, hp⟩ := h
  exact ⟨4, 0, 0, g, A, none, n, c, 0, 0, 0, 0, rfl, ⟨h.nv, rfl⟩, hp⟩
theorem cnumeric_b {k p q : Int} {g : Bool} {A C : Option Addr} {n c m d : Nat} {r : Int} {z : Int} (w : World) (h : NV w (Value.agg #[.int .i64 k, .int .i64 p, .int .i64 q, .bool g, .slice A n c, .slice C m d, .int .i64 r]) (.big z)) : Calls Tryz.prog 12 #[Value.agg #[.int .i64 k, .int .i64 p, .int .i64 q, .bool g, .slice A n c, .slice C m d, .int .i64 r]] w (RetB z w) := by
  obtain ⟨g, A, C, xs, n, c, d, e, h1, h2, h3, h4⟩ := h
  have hn : NV w (Value.agg #[.int .i64 4, .int .i64 0, .int .i64 0, .bool g, .slice A n c, .slice C 0 d, .int .i64 0]) (.big z) := ⟨g, A, C, xs, n, c, d, rfl, h1, h2, h3, h4⟩
  rw [e]
  refine (numeric_big w (Lib.hid hn.vld) (Lib.hid h4)).mono ?_
  rintro e w' ⟨D, k, rfl, hD, hp⟩
  exact ⟨g, D, xs, n, k, rfl, ⟨h2, h3, hD⟩, hp⟩
set_option maxRecDepth 100000 in
set_option maxHeartbeats 4000000 in
theorem numerics_NN {ka pa qa : Int} {ga : Bool} {Aa Ca : Option Addr} {na ca ma da : Nat} {ra : Int} {kb pb qb : Int} {gb : Bool} {Ab Cb : Option Addr} {nb cb mb db : Nat} {rb : Int} {xa : JV} {aa ba : Int} {xb : JV} {ab bb : Int} (w : World) (hL : Hid (Lai w)) (hxa : Hid (NV w (Value.agg #[.int .i64 ka, .int .i64 pa, .int .i64 qa, .bool ga, .slice Aa na ca, .slice Ca ma da, .int .i64 ra]) xa)) (hJa : Hid (numJ xa = ⟨aa, ba, 0⟩)) (nba : ∀ z, xa ≠ .big z) (hxb : Hid (NV w (Value.agg #[.int .i64 kb, .int .i64 pb, .int .i64 qb, .bool gb, .slice Ab nb cb, .slice Cb mb db, .int .i64 rb]) xb)) (hJb : Hid (numJ xb = ⟨ab, bb, 0⟩)) (nbb : ∀ z, xb ≠ .big z) : Calls Tryz.prog 249 #[Value.agg #[.int .i64 ka, .int .i64 pa, .int .i64 qa, .bool ga, .slice Aa na ca, .slice Ca ma da, .int .i64 ra], Value.agg #[.int .i64 kb, .int .i64 pb, .int .i64 qb, .bool gb, .slice Ab nb cb, .slice Cb mb db, .int .i64 rb]] w (fun e w' => e = .returned (.tuple #[Value.agg #[.int .i64 3, .int .i64 aa, .int .i64 ba, .bool false, .slice none 0 0, .slice none 0 0, .int .i64 0], Value.agg #[.int .i64 3, .int .i64 ab, .int .i64 bb, .bool false, .slice none 0 0, .slice none 0 0, .int .i64 0], .int .i64 0]) ∧ Plus w w') := by
  go_enter Tryz.func249, Tryz.ntmps249
  go_wp2_with (first | (go_at_call_of 12 (Value.agg #[.int .i64 ka, .int .i64 pa, .int .i64 qa, .bool ga, .slice Aa na ca, .slice Ca ma da, .int .i64 ra]); (with_reducible refine (cnumeric_y hJa nba _ (hL.out.plus (by repeat' (first | exact Plus.refl _ | refine Plus.alloc ?_ _ | refine Plus.plus ?_ _ | refine Plus.drew ?_ | refine Plus.drewN ?_ _))) (hxa.out.plus (by repeat' (first | exact Plus.refl _ | refine Plus.alloc ?_ _ | refine Plus.plus ?_ _ | refine Plus.drew ?_ | refine Plus.drewN ?_ _))) (hxa.out.vld.plus (by repeat' (first | exact Plus.refl _ | refine Plus.alloc ?_ _ | refine Plus.plus ?_ _ | refine Plus.drew ?_ | refine Plus.drewN ?_ _)))).mono ?_); rintro e w1 ⟨rfl, ⟨ya, rfl⟩⟩) | (go_at_call_of 12 (Value.agg #[.int .i64 kb, .int .i64 pb, .int .i64 qb, .bool gb, .slice Ab nb cb, .slice Cb mb db, .int .i64 rb]); (with_reducible refine (cnumeric_y hJb nbb _ (hL.out.plus (by repeat' (first | exact Plus.refl _ | refine Plus.alloc ?_ _ | refine Plus.plus ?_ _ | refine Plus.drew ?_ | refine Plus.drewN ?_ _))) (hxb.out.plus (by repeat' (first | exact Plus.refl _ | refine Plus.alloc ?_ _ | refine Plus.plus ?_ _ | refine Plus.drew ?_ | refine Plus.drewN ?_ _))) (hxb.out.vld.plus (by repeat' (first | exact Plus.refl _ | refine Plus.alloc ?_ _ | refine Plus.plus ?_ _ | refine Plus.drew ?_ | refine Plus.drewN ?_ _)))).mono ?_); rintro e w1 ⟨rfl, ⟨yb, rfl⟩⟩))
  go_region
  all_goals
    go_wp2_with fail
    go_returns
    exact ⟨rfl, (by repeat' (first | exact Plus.refl _ | refine Plus.alloc ?_ _ | refine Plus.plus ?_ _ | refine Plus.drew ?_ | refine Plus.drewN ?_ _))⟩
set_option maxRecDepth 100000 in
set_option maxHeartbeats 4000000 in
theorem numerics_BN {ka pa qa : Int} {ga : Bool} {Aa Ca : Option Addr} {na ca ma da : Nat} {ra : Int} {kb pb qb : Int} {gb : Bool} {Ab Cb : Option Addr} {nb cb mb db : Nat} {rb : Int} {za : Int} {xb : JV} {ab bb : Int} (w : World) (hL : Hid (Lai w)) (hxa : Hid (NV w (Value.agg #[.int .i64 ka, .int .i64 pa, .int .i64 qa, .bool ga, .slice Aa na ca, .slice Ca ma da, .int .i64 ra]) (.big za))) (hxb : Hid (NV w (Value.agg #[.int .i64 kb, .int .i64 pb, .int .i64 qb, .bool gb, .slice Ab nb cb, .slice Cb mb db, .int .i64 rb]) xb)) (hJb : Hid (numJ xb = ⟨ab, bb, 0⟩)) (nbb : ∀ z, xb ≠ .big z) : Calls Tryz.prog 249 #[Value.agg #[.int .i64 ka, .int .i64 pa, .int .i64 qa, .bool ga, .slice Aa na ca, .slice Ca ma da, .int .i64 ra], Value.agg #[.int .i64 kb, .int .i64 pb, .int .i64 qb, .bool gb, .slice Ab nb cb, .slice Cb mb db, .int .i64 rb]] w (fun e w' => ∃ (ga1 : Bool) (Aa1 : Option Addr) (xsa1 : List Nat) (na1 ca1 : Nat), e = .returned (.tuple #[Value.agg #[.int .i64 4, .int .i64 0, .int .i64 0, .bool ga1, .slice Aa1 na1 ca1, .slice none 0 0, .int .i64 0], Value.agg #[.int .i64 3, .int .i64 ab, .int .i64 bb, .bool false, .slice none 0 0, .slice none 0 0, .int .i64 0], .int .i64 0]) ∧ BgV ga1 Aa1 xsa1 na1 ca1 za w' ∧ Plus w w') := by
  go_enter Tryz.func249, Tryz.ntmps249
  go_wp2_with (first | (go_at_call_of 12 (Value.agg #[.int .i64 ka, .int .i64 pa, .int .i64 qa, .bool ga, .slice Aa na ca, .slice Ca ma da, .int .i64 ra]); (with_reducible refine (cnumeric_b _ (hxa.out.plus (by repeat' (first | exact Plus.refl _ | refine Plus.alloc ?_ _ | refine Plus.plus ?_ _ | refine Plus.drew ?_ | refine Plus.drewN ?_ _)))).mono ?_); rintro e w1 ⟨ga1, Aa1, xsa1, na1, ca1, rfl, hBa, ⟨ya, rfl⟩⟩; have HBa := Lib.hid hBa; clear hBa) | (go_at_call_of 12 (Value.agg #[.int .i64 kb, .int .i64 pb, .int .i64 qb, .bool gb, .slice Ab nb cb, .slice Cb mb db, .int .i64 rb]); (with_reducible refine (cnumeric_y hJb nbb _ (hL.out.plus (by repeat' (first | exact Plus.refl _ | refine Plus.alloc ?_ _ | refine Plus.plus ?_ _ | refine Plus.drew ?_ | refine Plus.drewN ?_ _))) (hxb.out.plus (by repeat' (first | exact Plus.refl _ | refine Plus.alloc ?_ _ | refine Plus.plus ?_ _ | refine Plus.drew ?_ | refine Plus.drewN ?_ _))) (hxb.out.vld.plus (by repeat' (first | exact Plus.refl _ | refine Plus.alloc ?_ _ | refine Plus.plus ?_ _ | refine Plus.drew ?_ | refine Plus.drewN ?_ _)))).mono ?_); rintro e w1 ⟨rfl, ⟨yb, rfl⟩⟩))
  go_region
  all_goals
    go_wp2_with fail
    go_returns
    exact ⟨ga1, Aa1, xsa1, na1, ca1, rfl, BgV.offs HBa.out (by repeat (first | (refine Offp.of ?_; (repeat' (first | exact Offs.refl _ | refine Offs.plus ?_ _ | refine Offs.alloc ?_ _ | exact Offs.allocN (Offs.refl _) (nuV _ _ _ _ _ _ _ _ _ _ _ _) | refine Offs.allocN ?_ (nuV _ _ _ _ _ _ _ _ _ _ _ _) | refine Offs.allocN ?_ (nuB _ _ _ _ _) | refine Offs.allocN ?_ (nuN _ _ _) | refine Offs.drew ?_ | refine Offs.drewL ?_ | refine Offs.drewR ?_)); done) | refine Offp.plusR ?_ _ | refine Offp.allocR ?_ _ | refine Offp.drewR ?_)), (by repeat' (first | exact Plus.refl _ | refine Plus.alloc ?_ _ | refine Plus.plus ?_ _ | refine Plus.drew ?_ | refine Plus.drewN ?_ _))⟩
set_option maxRecDepth 100000 in
set_option maxHeartbeats 4000000 in
theorem numerics_BB {ka pa qa : Int} {ga : Bool} {Aa Ca : Option Addr} {na ca ma da : Nat} {ra : Int} {kb pb qb : Int} {gb : Bool} {Ab Cb : Option Addr} {nb cb mb db : Nat} {rb : Int} {za : Int} {zb : Int} (w : World) (_hL : Hid (Lai w)) (hxa : Hid (NV w (Value.agg #[.int .i64 ka, .int .i64 pa, .int .i64 qa, .bool ga, .slice Aa na ca, .slice Ca ma da, .int .i64 ra]) (.big za))) (hxb : Hid (NV w (Value.agg #[.int .i64 kb, .int .i64 pb, .int .i64 qb, .bool gb, .slice Ab nb cb, .slice Cb mb db, .int .i64 rb]) (.big zb))) : Calls Tryz.prog 249 #[Value.agg #[.int .i64 ka, .int .i64 pa, .int .i64 qa, .bool ga, .slice Aa na ca, .slice Ca ma da, .int .i64 ra], Value.agg #[.int .i64 kb, .int .i64 pb, .int .i64 qb, .bool gb, .slice Ab nb cb, .slice Cb mb db, .int .i64 rb]] w (fun e w' => ∃ (ga1 : Bool) (Aa1 : Option Addr) (xsa1 : List Nat) (na1 ca1 : Nat), ∃ (gb1 : Bool) (Ab1 : Option Addr) (xsb1 : List Nat) (nb1 cb1 : Nat), e = .returned (.tuple #[Value.agg #[.int .i64 4, .int .i64 0, .int .i64 0, .bool ga1, .slice Aa1 na1 ca1, .slice none 0 0, .int .i64 0], Value.agg #[.int .i64 4, .int .i64 0, .int .i64 0, .bool gb1, .slice Ab1 nb1 cb1, .slice none 0 0, .int .i64 0], .int .i64 0]) ∧ BgV ga1 Aa1 xsa1 na1 ca1 za w' ∧ BgV gb1 Ab1 xsb1 nb1 cb1 zb w' ∧ Plus w w') := by
  go_enter Tryz.func249, Tryz.ntmps249
  go_wp2_with (first | (go_at_call_of 12 (Value.agg #[.int .i64 ka, .int .i64 pa, .int .i64 qa, .bool ga, .slice Aa na ca, .slice Ca ma da, .int .i64 ra]); (with_reducible refine (cnumeric_b _ (hxa.out.plus (by repeat' (first | exact Plus.refl _ | refine Plus.alloc ?_ _ | refine Plus.plus ?_ _ | refine Plus.drew ?_ | refine Plus.drewN ?_ _)))).mono ?_); rintro e w1 ⟨ga1, Aa1, xsa1, na1, ca1, rfl, hBa, ⟨ya, rfl⟩⟩; have HBa := Lib.hid hBa; clear hBa) | (go_at_call_of 12 (Value.agg #[.int .i64 kb, .int .i64 pb, .int .i64 qb, .bool gb, .slice Ab nb cb, .slice Cb mb db, .int .i64 rb]); (with_reducible refine (cnumeric_b _ (hxb.out.plus (by repeat' (first | exact Plus.refl _ | refine Plus.alloc ?_ _ | refine Plus.plus ?_ _ | refine Plus.drew ?_ | refine Plus.drewN ?_ _)))).mono ?_); rintro e w1 ⟨gb1, Ab1, xsb1, nb1, cb1, rfl, hBb, ⟨yb, rfl⟩⟩; have HBb := Lib.hid hBb; clear hBb))
  go_region
  all_goals
    go_wp2_with fail
    go_returns
    exact ⟨ga1, Aa1, xsa1, na1, ca1, gb1, Ab1, xsb1, nb1, cb1, rfl, BgV.offs HBa.out (by repeat (first | (refine Offp.of ?_; (repeat' (first | exact Offs.refl _ | refine Offs.plus ?_ _ | refine Offs.alloc ?_ _ | exact Offs.allocN (Offs.refl _) (nuV _ _ _ _ _ _ _ _ _ _ _ _) | refine Offs.allocN ?_ (nuV _ _ _ _ _ _ _ _ _ _ _ _) | refine Offs.allocN ?_ (nuB _ _ _ _ _) | refine Offs.allocN ?_ (nuN _ _ _) | refine Offs.drew ?_ | refine Offs.drewL ?_ | refine Offs.drewR ?_)); done) | refine Offp.plusR ?_ _ | refine Offp.allocR ?_ _ | refine Offp.drewR ?_)), BgV.offs HBb.out (by repeat (first | (refine Offp.of ?_; (repeat' (first | exact Offs.refl _ | refine Offs.plus ?_ _ | refine Offs.alloc ?_ _ | exact Offs.allocN (Offs.refl _) (nuV _ _ _ _ _ _ _ _ _ _ _ _) | refine Offs.allocN ?_ (nuV _ _ _ _ _ _ _ _ _ _ _ _) | refine Offs.allocN ?_ (nuB _ _ _ _ _) | refine Offs.allocN ?_ (nuN _ _ _) | refine Offs.drew ?_ | refine Offs.drewL ?_ | refine Offs.drewR ?_)); done) | refine Offp.plusR ?_ _ | refine Offp.allocR ?_ _ | refine Offp.drewR ?_)), (by repeat' (first | exact Plus.refl _ | refine Plus.alloc ?_ _ | refine Plus.plus ?_ _ | refine Plus.drew ?_ | refine Plus.drewN ?_ _))⟩
end Go.Proofs.YtakahpbondaidaaGreatDoor
namespace Go.Proofs.YtakahpbondaidaaGreatDoor
open Go.RowKit

set_option maxRecDepth 100000 in
set_option maxHeartbeats 4000000 in
theorem operands_NN {ka pa qa : Int} {ga : Bool} {Aa Ca : Option Addr} {na ca ma da : Nat} {ra : Int} {kb pb qb : Int} {gb : Bool} {Ab Cb : Option Addr} {nb cb mb db : Nat} {rb : Int} {xa : JV} {aa ba : Int} {xb : JV} {ab bb : Int} (w : World) (hL : Hid (Lai w)) (hxa : Hid (NV w (Value.agg #[.int .i64 ka, .int .i64 pa, .int .i64 qa, .bool ga, .slice Aa na ca, .slice Ca ma da, .int .i64 ra]) xa)) (hJa : Hid (numJ xa = ⟨aa, ba, 0⟩)) (nba : ∀ z, xa ≠ .big z) (hxb : Hid (NV w (Value.agg #[.int .i64 kb, .int .i64 pb, .int .i64 qb, .bool gb, .slice Ab nb cb, .slice Cb mb db, .int .i64 rb]) xb)) (hJb : Hid (numJ xb = ⟨ab, bb, 0⟩)) (nbb : ∀ z, xb ≠ .big z) : Calls Tryz.prog 212 #[Value.agg #[.int .i64 ka, .int .i64 pa, .int .i64 qa, .bool ga, .slice Aa na ca, .slice Ca ma da, .int .i64 ra], Value.agg #[.int .i64 kb, .int .i64 pb, .int .i64 qb, .bool gb, .slice Ab nb cb, .slice Cb mb db, .int .i64 rb]] w (fun e w' => e = .returned (.tuple #[Value.agg #[.int .i64 3, .int .i64 aa, .int .i64 ba, .bool false, .slice none 0 0, .slice none 0 0, .int .i64 0], Value.agg #[.int .i64 3, .int .i64 ab, .int .i64 bb, .bool false, .slice none 0 0, .slice none 0 0, .int .i64 0], .int .i64 0]) ∧ Plus w w') := by
  go_enter Tryz.func212, Tryz.ntmps212
  go_wp2_with (go_at_call 249; (with_reducible refine (numerics_NN _ (Lib.hid (hL.out.plus (by repeat' (first | exact Plus.refl _ | refine Plus.alloc ?_ _ | refine Plus.plus ?_ _ | refine Plus.drew ?_ | refine Plus.drewN ?_ _)))) (Lib.hid (hxa.out.plus (by repeat' (first | exact Plus.refl _ | refine Plus.alloc ?_ _ | refine Plus.plus ?_ _ | refine Plus.drew ?_ | refine Plus.drewN ?_ _)))) hJa nba (Lib.hid (hxb.out.plus (by repeat' (first | exact Plus.refl _ | refine Plus.alloc ?_ _ | refine Plus.plus ?_ _ | refine Plus.drew ?_ | refine Plus.drewN ?_ _)))) hJb nbb).mono ?_); rintro e w1 ⟨rfl, ⟨y1, rfl⟩⟩)
  go_region
  all_goals
    go_wp2_with fail
    go_returns
    exact ⟨rfl, (by repeat' (first | exact Plus.refl _ | refine Plus.alloc ?_ _ | refine Plus.plus ?_ _ | refine Plus.drew ?_ | refine Plus.drewN ?_ _))⟩
set_option maxRecDepth 100000 in
set_option maxHeartbeats 4000000 in
theorem operands_BN {ka pa qa : Int} {ga : Bool} {Aa Ca : Option Addr} {na ca ma da : Nat} {ra : Int} {kb pb qb : Int} {gb : Bool} {Ab Cb : Option Addr} {nb cb mb db : Nat} {rb : Int} {za : Int} {xb : JV} {ab bb : Int} (w : World) (hL : Hid (Lai w)) (hxa : Hid (NV w (Value.agg #[.int .i64 ka, .int .i64 pa, .int .i64 qa, .bool ga, .slice Aa na ca, .slice Ca ma da, .int .i64 ra]) (.big za))) (hxb : Hid (NV w (Value.agg #[.int .i64 kb, .int .i64 pb, .int .i64 qb, .bool gb, .slice Ab nb cb, .slice Cb mb db, .int .i64 rb]) xb)) (hJb : Hid (numJ xb = ⟨ab, bb, 0⟩)) (nbb : ∀ z, xb ≠ .big z) : Calls Tryz.prog 212 #[Value.agg #[.int .i64 ka, .int .i64 pa, .int .i64 qa, .bool ga, .slice Aa na ca, .slice Ca ma da, .int .i64 ra], Value.agg #[.int .i64 kb, .int .i64 pb, .int .i64 qb, .bool gb, .slice Ab nb cb, .slice Cb mb db, .int .i64 rb]] w (fun e w' => e = .returned (.tuple #[Value.agg #[.int .i64 0, .int .i64 0, .int .i64 0, .bool false, .slice none 0 0, .slice none 0 0, .int .i64 0], Value.agg #[.int .i64 0, .int .i64 0, .int .i64 0, .bool false, .slice none 0 0, .slice none 0 0, .int .i64 0], .int .i64 1]) ∧ Plus w w') := by
  go_enter Tryz.func212, Tryz.ntmps212
  go_wp2_with (go_at_call 249; (with_reducible refine (numerics_BN _ (Lib.hid (hL.out.plus (by repeat' (first | exact Plus.refl _ | refine Plus.alloc ?_ _ | refine Plus.plus ?_ _ | refine Plus.drew ?_ | refine Plus.drewN ?_ _)))) (Lib.hid (hxa.out.plus (by repeat' (first | exact Plus.refl _ | refine Plus.alloc ?_ _ | refine Plus.plus ?_ _ | refine Plus.drew ?_ | refine Plus.drewN ?_ _)))) (Lib.hid (hxb.out.plus (by repeat' (first | exact Plus.refl _ | refine Plus.alloc ?_ _ | refine Plus.plus ?_ _ | refine Plus.drew ?_ | refine Plus.drewN ?_ _)))) hJb nbb).mono ?_); rintro e w1 ⟨ga1, Aa1, xsa1, na1, ca1, rfl, hBa, ⟨y1, rfl⟩⟩; have HBa := Lib.hid hBa; clear hBa)
  go_returns
  exact ⟨rfl, (by repeat' (first | exact Plus.refl _ | refine Plus.alloc ?_ _ | refine Plus.plus ?_ _ | refine Plus.drew ?_ | refine Plus.drewN ?_ _))⟩
set_option maxRecDepth 100000 in
set_option maxHeartbeats 4000000 in
theorem operands_BB {ka pa qa : Int} {ga : Bool} {Aa Ca : Option Addr} {na ca ma da : Nat} {ra : Int} {kb pb qb : Int} {gb : Bool} {Ab Cb : Option Addr} {nb cb mb db : Nat} {rb : Int} {za : Int} {zb : Int} (w : World) (_hL : Hid (Lai w)) (hxa : Hid (NV w (Value.agg #[.int .i64 ka, .int .i64 pa, .int .i64 qa, .bool ga, .slice Aa na ca, .slice Ca ma da, .int .i64 ra]) (.big za))) (hxb : Hid (NV w (Value.agg #[.int .i64 kb, .int .i64 pb, .int .i64 qb, .bool gb, .slice Ab nb cb, .slice Cb mb db, .int .i64 rb]) (.big zb))) : Calls Tryz.prog 212 #[Value.agg #[.int .i64 ka, .int .i64 pa, .int .i64 qa, .bool ga, .slice Aa na ca, .slice Ca ma da, .int .i64 ra], Value.agg #[.int .i64 kb, .int .i64 pb, .int .i64 qb, .bool gb, .slice Ab nb cb, .slice Cb mb db, .int .i64 rb]] w (fun e w' => ∃ (ga1 : Bool) (Aa1 : Option Addr) (xsa1 : List Nat) (na1 ca1 : Nat), ∃ (gb1 : Bool) (Ab1 : Option Addr) (xsb1 : List Nat) (nb1 cb1 : Nat), e = .returned (.tuple #[Value.agg #[.int .i64 4, .int .i64 0, .int .i64 0, .bool ga1, .slice Aa1 na1 ca1, .slice none 0 0, .int .i64 0], Value.agg #[.int .i64 4, .int .i64 0, .int .i64 0, .bool gb1, .slice Ab1 nb1 cb1, .slice none 0 0, .int .i64 0], .int .i64 0]) ∧ BgV ga1 Aa1 xsa1 na1 ca1 za w' ∧ BgV gb1 Ab1 xsb1 nb1 cb1 zb w' ∧ Plus w w') := by
  go_enter Tryz.func212, Tryz.ntmps212
  go_wp2_with (go_at_call 249; (with_reducible refine (numerics_BB _ (Lib.hid (_hL.out.plus (by repeat' (first | exact Plus.refl _ | refine Plus.alloc ?_ _ | refine Plus.plus ?_ _ | refine Plus.drew ?_ | refine Plus.drewN ?_ _)))) (Lib.hid (hxa.out.plus (by repeat' (first | exact Plus.refl _ | refine Plus.alloc ?_ _ | refine Plus.plus ?_ _ | refine Plus.drew ?_ | refine Plus.drewN ?_ _)))) (Lib.hid (hxb.out.plus (by repeat' (first | exact Plus.refl _ | refine Plus.alloc ?_ _ | refine Plus.plus ?_ _ | refine Plus.drew ?_ | refine Plus.drewN ?_ _))))).mono ?_); rintro e w1 ⟨ga1, Aa1, xsa1, na1, ca1, gb1, Ab1, xsb1, nb1, cb1, rfl, hBa, hBb, ⟨y1, rfl⟩⟩; have HBa := Lib.hid hBa; clear hBa; have HBb := Lib.hid hBb; clear hBb)
  go_region
  all_goals
    go_wp2_with fail
    go_returns
    exact ⟨ga1, Aa1, xsa1, na1, ca1, gb1, Ab1, xsb1, nb1, cb1, rfl, BgV.offs HBa.out (by repeat (first | (refine Offp.of ?_; (repeat' (first | exact Offs.refl _ | refine Offs.plus ?_ _ | refine Offs.alloc ?_ _ | exact Offs.allocN (Offs.refl _) (nuV _ _ _ _ _ _ _ _ _ _ _ _) | refine Offs.allocN ?_ (nuV _ _ _ _ _ _ _ _ _ _ _ _) | refine Offs.allocN ?_ (nuB _ _ _ _ _) | refine Offs.allocN ?_ (nuN _ _ _) | refine Offs.drew ?_ | refine Offs.drewL ?_ | refine Offs.drewR ?_)); done) | refine Offp.plusR ?_ _ | refine Offp.allocR ?_ _ | refine Offp.drewR ?_)), BgV.offs HBb.out (by repeat (first | (refine Offp.of ?_; (repeat' (first | exact Offs.refl _ | refine Offs.plus ?_ _ | refine Offs.alloc ?_ _ | exact Offs.allocN (Offs.refl _) (nuV _ _ _ _ _ _ _ _ _ _ _ _) | refine Offs.allocN ?_ (nuV _ _ _ _ _ _ _ _ _ _ _ _) | refine Offs.allocN ?_ (nuB _ _ _ _ _) | refine Offs.allocN ?_ (nuN _ _ _) | refine Offs.drew ?_ | refine Offs.drewL ?_ | refine Offs.drewR ?_)); done) | refine Offp.plusR ?_ _ | refine Offp.allocR ?_ _ | refine Offp.drewR ?_)), (by repeat' (first | exact Plus.refl _ | refine Plus.alloc ?_ _ | refine Plus.plus ?_ _ | refine Plus.drew ?_ | refine Plus.drewN ?_ _))⟩
end Go.Proofs.YtakahpbondaidaaGreatDoor
namespace Go.Proofs.YtakahpbondaidaaGreatDoor
open Go.RowKit

set_option maxRecDepth 100000 in
set_option maxHeartbeats 4000000 in
theorem nums_add_y {a b a2 b2 x y : Int} (w : World) (h : Hid (addR a b a2 b2 = ⟨x, y, true⟩)) : Calls Tryz.prog 92 #[.string ⟨#[43]⟩, .agg #[.int .i64 a, .int .i64 b], .agg #[.int .i64 a2, .int .i64 b2]] w (fun e w' => e = .returned (.tuple #[Value.agg #[.int .i64 3, .int .i64 x, .int .i64 y, .bool false, .slice none 0 0, .slice none 0 0, .int .i64 0], .int .i64 0]) ∧ Plus w w') := by
  go_enter Tryz.func92, Tryz.ntmps92
  go_wp2_with (first | (go_at_call 160; (with_reducible refine (add_v h _).mono ?_); rintro e w1 ⟨rfl, ⟨x1, rfl⟩⟩) | (go_at_call 159; (with_reducible refine (inset_y _).mono ?_); rintro e w1 ⟨rfl, ⟨x2, rfl⟩⟩))
  go_returns
  exact ⟨rfl, (by repeat' (first | exact Plus.refl _ | refine Plus.alloc ?_ _ | refine Plus.plus ?_ _ | refine Plus.drew ?_ | refine Plus.drewN ?_ _))⟩
set_option maxRecDepth 100000 in
set_option maxHeartbeats 4000000 in
theorem nums_add_n {a b a2 b2 x y : Int} (w : World) (h : Hid (addR a b a2 b2 = ⟨x, y, false⟩)) : Calls Tryz.prog 92 #[.string ⟨#[43]⟩, .agg #[.int .i64 a, .int .i64 b], .agg #[.int .i64 a2, .int .i64 b2]] w (fun e w' => e = .returned (.tuple #[Value.agg #[.int .i64 0, .int .i64 0, .int .i64 0, .bool false, .slice none 0 0, .slice none 0 0, .int .i64 0], .int .i64 3]) ∧ Plus w w') := by
  go_enter Tryz.func92, Tryz.ntmps92
  go_wp2_with (first | (go_at_call 160; (with_reducible refine (add_v h _).mono ?_); rintro e w1 ⟨rfl, ⟨x1, rfl⟩⟩) | (go_at_call 159; (with_reducible refine (inset_n _).mono ?_); rintro e w1 ⟨rfl, ⟨x2, rfl⟩⟩))
  go_returns
  exact ⟨rfl, (by repeat' (first | exact Plus.refl _ | refine Plus.alloc ?_ _ | refine Plus.plus ?_ _ | refine Plus.drew ?_ | refine Plus.drewN ?_ _))⟩
set_option maxRecDepth 100000 in
set_option maxHeartbeats 4000000 in
theorem nums_div_n {a b a2 b2 x y : Int} (w : World) (h : Hid (divR a b a2 b2 = ⟨x, y, false⟩)) : Calls Tryz.prog 92 #[.string ⟨#[47]⟩, .agg #[.int .i64 a, .int .i64 b], .agg #[.int .i64 a2, .int .i64 b2]] w (fun e w' => e = .returned (.tuple #[Value.agg #[.int .i64 0, .int .i64 0, .int .i64 0, .bool false, .slice none 0 0, .slice none 0 0, .int .i64 0], .int .i64 3]) ∧ Plus w w') := by
  go_enter Tryz.func92, Tryz.ntmps92
  go_wp2_with (first | (go_at_call 163; (with_reducible refine (div_v h _).mono ?_); rintro e w1 ⟨rfl, ⟨x1, rfl⟩⟩) | (go_at_call 159; (with_reducible refine (inset_n _).mono ?_); rintro e w1 ⟨rfl, ⟨x2, rfl⟩⟩))
  go_returns
  exact ⟨rfl, (by repeat' (first | exact Plus.refl _ | refine Plus.alloc ?_ _ | refine Plus.plus ?_ _ | refine Plus.drew ?_ | refine Plus.drewN ?_ _))⟩
end Go.Proofs.YtakahpbondaidaaGreatDoor
namespace Go.Proofs.YtakahpbondaidaaGreatDoor
open Go.RowKit

theorem nm_may {r : Int} {pb : Bool} {us : List Nat} (h : Bg.Nm r pb us) : Bg.mayL pb us = true ∧ Bg.bigI pb us = r := by
  obtain ⟨rfl, rfl, h3⟩ := h
  have := Bg.may_dig h3
  exact ⟨this, Bg.Nm.val ⟨rfl, rfl, h3⟩⟩
theorem badd_v {ga gb : Bool} {Aa Ab : Option Addr} {xsa xsb : List Nat} {na ca nb cb : Nat} {za zb r : Int} {pb : Bool} {us : List Nat} {ok : Bool} {w : World} (h1 : Hid (BgV ga Aa xsa na ca za w)) (h2 : Hid (BgV gb Ab xsb nb cb zb w)) (hr : Hid (Bg.AddN za zb r ok pb us)) (w0 : World) (hp : Plus w w0) : Calls Tryz.prog 153 #[.agg #[.bool ga, .slice Aa na ca], .agg #[.bool gb, .slice Ab nb cb]] w0 fun e w' => ∃ (A1 : Option Addr) (c1 : Nat), e = .returned (.tuple #[.agg #[.bool pb, .slice A1 us.length c1], .bool ok]) ∧ Bg.Arg w' A1 us us.length c1 ∧ Plus w0 w' :=
  Bg.add_n (Lib.hid h1.out.2.1) (Lib.hid h2.out.2.1) hr w0 (h1.out.2.2.plus hp) (h2.out.2.2.plus hp)
theorem BgV.mk3 {r : Int} {pb : Bool} {us : List Nat} (h : Bg.Nm r pb us) {w : World} {A : Option Addr} {c : Nat} (ha : Bg.Arg w A us us.length c) : BgV pb A us us.length c r w := ⟨(nm_may h).1, (nm_may h).2, ha⟩
set_option maxRecDepth 100000 in
set_option maxHeartbeats 4000000 in
theorem bigs_add_y {ga gb : Bool} {Aa Ab : Option Addr} {xsa xsb : List Nat} {na ca nb cb : Nat} {za zb r : Int} {pb : Bool} {us : List Nat} (w : World) (h1 : Hid (BgV ga Aa xsa na ca za w)) (h2 : Hid (BgV gb Ab xsb nb cb zb w)) (hr : Hid (Bg.AddN za zb r true pb us)) : Calls Tryz.prog 91 #[.string ⟨#[43]⟩, .agg #[.bool ga, .slice Aa na ca], .agg #[.bool gb, .slice Ab nb cb]] w (RetB r w) := by
  go_enter Tryz.func91, Tryz.ntmps91
  have hm : Bg.Nm r pb us := hr.out.1
  go_wp2_with (first | (go_at_call 153; (with_reducible refine (badd_v h1 h2 hr _ (by repeat' (first | exact Plus.refl _ | refine Plus.alloc ?_ _ | refine Plus.plus ?_ _ | refine Plus.drew ?_ | refine Plus.drewN ?_ _))).mono ?_); rintro e w1 ⟨A3, c3, rfl, hC, ⟨x1, rfl⟩⟩; have HC := Lib.hid hC; clear hC) | (go_at_call 152; (with_reducible refine (short_y _).mono ?_); rintro e w1 ⟨rfl, ⟨x2, rfl⟩⟩))
  go_returns
  exact ⟨pb, A3, us, us.length, c3, rfl, (BgV.mk3 hm HC.out).offs (by repeat (first | (refine Offp.of ?_; (repeat' (first | exact Offs.refl _ | refine Offs.plus ?_ _ | refine Offs.alloc ?_ _ | exact Offs.allocN (Offs.refl _) (nuV _ _ _ _ _ _ _ _ _ _ _ _) | refine Offs.allocN ?_ (nuV _ _ _ _ _ _ _ _ _ _ _ _) | refine Offs.allocN ?_ (nuB _ _ _ _ _) | refine Offs.allocN ?_ (nuN _ _ _) | refine Offs.drew ?_ | refine Offs.drewL ?_ | refine Offs.drewR ?_)); done) | refine Offp.plusR ?_ _ | refine Offp.allocR ?_ _ | refine Offp.drewR ?_)), (by repeat' (first | exact Plus.refl _ | refine Plus.alloc ?_ _ | refine Plus.plus ?_ _ | refine Plus.drew ?_ | refine Plus.drewN ?_ _))⟩
set_option maxRecDepth 100000 in
set_option maxHeartbeats 4000000 in
theorem bigs_add_n {ga gb : Bool} {Aa Ab : Option Addr} {xsa xsb : List Nat} {na ca nb cb : Nat} {za zb r : Int} {pb : Bool} {us : List Nat} (w : World) (h1 : Hid (BgV ga Aa xsa na ca za w)) (h2 : Hid (BgV gb Ab xsb nb cb zb w)) (hr : Hid (Bg.AddN za zb r false pb us)) : Calls Tryz.prog 91 #[.string ⟨#[43]⟩, .agg #[.bool ga, .slice Aa na ca], .agg #[.bool gb, .slice Ab nb cb]] w (fun e w' => e = .returned (.tuple #[Value.agg #[.int .i64 0, .int .i64 0, .int .i64 0, .bool false, .slice none 0 0, .slice none 0 0, .int .i64 0], .int .i64 3]) ∧ Plus w w') := by
  go_enter Tryz.func91, Tryz.ntmps91
  go_wp2_with (first | (go_at_call 153; (with_reducible refine (badd_v h1 h2 hr _ (by repeat' (first | exact Plus.refl _ | refine Plus.alloc ?_ _ | refine Plus.plus ?_ _ | refine Plus.drew ?_ | refine Plus.drewN ?_ _))).mono ?_); rintro e w1 ⟨A3, c3, rfl, hC, ⟨x1, rfl⟩⟩; have HC := Lib.hid hC; clear hC) | (go_at_call 152; (with_reducible refine (short_n _).mono ?_); rintro e w1 ⟨rfl, ⟨x2, rfl⟩⟩))
  go_returns
  exact ⟨rfl, (by repeat' (first | exact Plus.refl _ | refine Plus.alloc ?_ _ | refine Plus.plus ?_ _ | refine Plus.drew ?_ | refine Plus.drewN ?_ _))⟩
theorem bdiv_v {ga gb : Bool} {Aa Ab : Option Addr} {xsa xsb : List Nat} {na ca nb cb : Nat} {za zb r : Int} {pb : Bool} {us : List Nat} {er : Int} {w : World} (h1 : Hid (BgV ga Aa xsa na ca za w)) (h2 : Hid (BgV gb Ab xsb nb cb zb w)) (hr : Hid (Bg.DivN za zb r er pb us)) (w0 : World) (hp : Plus w w0) : Calls Tryz.prog 157 #[.agg #[.bool ga, .slice Aa na ca], .agg #[.bool gb, .slice Ab nb cb]] w0 fun e w' => ∃ (A1 : Option Addr) (c1 : Nat), e = .returned (.tuple #[.agg #[.bool pb, .slice A1 us.length c1], .int .i64 er]) ∧ Bg.Arg w' A1 us us.length c1 ∧ Plus w0 w' :=
  Bg.div_n (Lib.hid h1.out.2.1) (Lib.hid h2.out.2.1) hr w0 (h1.out.2.2.plus hp) (h2.out.2.2.plus hp)
set_option maxRecDepth 100000 in
set_option maxHeartbeats 4000000 in
theorem bigs_div_n {ga gb : Bool} {Aa Ab : Option Addr} {xsa xsb : List Nat} {na ca nb cb : Nat} {za zb r : Int} {pb : Bool} {us : List Nat} (w : World) (h1 : Hid (BgV ga Aa xsa na ca za w)) (h2 : Hid (BgV gb Ab xsb nb cb zb w)) (hr : Hid (Bg.DivN za zb r 4 pb us)) : Calls Tryz.prog 91 #[.string ⟨#[47]⟩, .agg #[.bool ga, .slice Aa na ca], .agg #[.bool gb, .slice Ab nb cb]] w (fun e w' => e = .returned (.tuple #[Value.agg #[.int .i64 0, .int .i64 0, .int .i64 0, .bool false, .slice none 0 0, .slice none 0 0, .int .i64 0], .int .i64 2]) ∧ Plus w w') := by
  go_enter Tryz.func91, Tryz.ntmps91
  go_wp2_with (first | (go_at_call 157; (with_reducible refine (bdiv_v h1 h2 hr _ (by repeat' (first | exact Plus.refl _ | refine Plus.alloc ?_ _ | refine Plus.plus ?_ _ | refine Plus.drew ?_ | refine Plus.drewN ?_ _))).mono ?_); rintro e w1 ⟨A3, c3, rfl, hC, ⟨x1, rfl⟩⟩; have HC := Lib.hid hC; clear hC) | (go_at_call 156; (with_reducible refine (divided_n _).mono ?_); rintro e w1 ⟨rfl, ⟨x2, rfl⟩⟩))
  go_returns
  exact ⟨rfl, (by repeat' (first | exact Plus.refl _ | refine Plus.alloc ?_ _ | refine Plus.plus ?_ _ | refine Plus.drew ?_ | refine Plus.drewN ?_ _))⟩
end Go.Proofs.YtakahpbondaidaaGreatDoor
