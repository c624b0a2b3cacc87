/- Events; same. -/
import Derived.WalkKit
import Derived.WalkSpells
import Derived.WalkLawsBesides
import Derived.Handy
import Derived.Deep.RegionHeld3
import Derived.Deep.DeepCutAuto
import Derived.Deep.QuietTactic
import Derived.BigQuiet
import Derived.Lib.Hide
import Derived.KernelRfl
import Derived.WalkMore
import Derived.Deep.LoopGhost
import Derived.IntWalk
import Derived.Test.YtmfdlcicbiincaaDoorE3
namespace Go.Proofs.YtmfdlcicbiincaaDoor
open Go.RowKit

/-- An event, plainly. -/
structure Ev where
  g : Int
  k : Int
  s : Bool
  t : Bool
  b : Int
  a : Int
  z : Int
  r : List Int
  w : List Int
  f : List Int
deriving DecidableEq, Inhabited
def sameB (g k : Int) (s t : Bool) (b a z g2 k2 : Int) (s2 t2 : Bool) (b2 a2 z2 : Int) (p q r : Bool) : Bool := g == g2 && k == k2 && s == s2 && t == t2 && b == b2 && a == a2 && z == z2 && p && q && r
/-- The lists of an event in memory. -/
structure EM (w : World) (R W F : Option Addr) (xs us fs : List Int) (nr cr nw cw nf cf : Nat) : Prop where
  er : Ar .u8 w R xs nr cr
  ew : Ar .u8 w W us nw cw
  ef : Ar .i64 w F fs nf cf
  br : By xs
  bw : By us
theorem EM.plus {w w' : World} {R W F : Option Addr} {xs us fs : List Int} {nr cr nw cw nf cf : Nat} (h : EM w R W F xs us fs nr cr nw cw nf cf) (hp : Plus w w') : EM w' R W F xs us fs nr cr nw cw nf cf := ⟨h.er.plus hp, h.ew.plus hp, h.ef.plus hp, h.br, h.bw⟩
set_option maxRecDepth 100000 in
set_option maxHeartbeats 4000000 in
theorem same_c {g k b a z : Int} {s t : Bool} {R W F : Option Addr} {nr cr nw cw nf cf : Nat} {g2 k2 b2 a2 z2 : Int} {s2 t2 : Bool} {R2 W2 F2 : Option Addr} {nr2 cr2 nw2 cw2 nf2 cf2 : Nat} {xs us fs xs2 us2 fs2 : List Int} {p q r : Bool} (w : World) (HP : Hid (decide (xs = xs2) = p)) (HQ : Hid (decide (us = us2) = q)) (HR : Hid (decide (fs = fs2) = r)) (H1 : Hid (EM w R W F xs us fs nr cr nw cw nf cf)) (H2 : Hid (EM w R2 W2 F2 xs2 us2 fs2 nr2 cr2 nw2 cw2 nf2 cf2)) : Calls Tryd.prog 87 #[Value.agg #[.int .i64 g, .int .i64 k, .bool s, .bool t, .int .i64 b, .int .i64 a, .int .i64 z, .slice R nr cr, .slice W nw cw, .slice F nf cf], Value.agg #[.int .i64 g2, .int .i64 k2, .bool s2, .bool t2, .int .i64 b2, .int .i64 a2, .int .i64 z2, .slice R2 nr2 cr2, .slice W2 nw2 cw2, .slice F2 nf2 cf2]] w fun e w' => e = .returned (.bool (sameB g k s t b a z g2 k2 s2 t2 b2 a2 z2 p q r)) ∧ Plus w w' := by
  go_enter Tryd.func87, Tryd.ntmps87
  go_wp2_with (first | (go_at_call_of 90 (Value.slice R nr cr); (with_reducible refine (beq_n _ HP (H1.out.er.plus (by repeat' (first | exact Plus.refl _ | refine Plus.alloc ?_ _ | refine Plus.plus ?_ _ | refine Plus.drew ?_ | refine Plus.drewN ?_ _))) (H2.out.er.plus (by repeat' (first | exact Plus.refl _ | refine Plus.alloc ?_ _ | refine Plus.plus ?_ _ | refine Plus.drew ?_ | refine Plus.drewN ?_ _))) H1.out.br H2.out.br).mono ?_); rintro e w1 ⟨rfl, ⟨x1, rfl⟩⟩) | (go_at_call_of 90 (Value.slice W nw cw); (with_reducible refine (beq_n _ HQ (H1.out.ew.plus (by repeat' (first | exact Plus.refl _ | refine Plus.alloc ?_ _ | refine Plus.plus ?_ _ | refine Plus.drew ?_ | refine Plus.drewN ?_ _))) (H2.out.ew.plus (by repeat' (first | exact Plus.refl _ | refine Plus.alloc ?_ _ | refine Plus.plus ?_ _ | refine Plus.drew ?_ | refine Plus.drewN ?_ _))) H1.out.bw H2.out.bw).mono ?_); rintro e w1 ⟨rfl, ⟨x2, rfl⟩⟩) | (go_at_call 91; (with_reducible refine (ieq_n _ HR (H1.out.ef.plus (by repeat' (first | exact Plus.refl _ | refine Plus.alloc ?_ _ | refine Plus.plus ?_ _ | refine Plus.drew ?_ | refine Plus.drewN ?_ _))) (H2.out.ef.plus (by repeat' (first | exact Plus.refl _ | refine Plus.alloc ?_ _ | refine Plus.plus ?_ _ | refine Plus.drew ?_ | refine Plus.drewN ?_ _)))).mono ?_); rintro e w1 ⟨rfl, ⟨x3, rfl⟩⟩))
  all_goals go_returns
  all_goals exact ⟨ret_bool (by unfold sameB; simp_all), (by repeat' (first | exact Plus.refl _ | refine Plus.alloc ?_ _ | refine Plus.plus ?_ _ | refine Plus.drew ?_ | refine Plus.drewN ?_ _))⟩
theorem same_n {g k b a z : Int} {s t : Bool} {R W F : Option Addr} {nr cr nw cw nf cf : Nat} {g2 k2 b2 a2 z2 : Int} {s2 t2 : Bool} {R2 W2 F2 : Option Addr} {nr2 cr2 nw2 cw2 nf2 cf2 : Nat} {xs us fs xs2 us2 fs2 : List Int} {c : Bool} (w : World) (H : Hid (decide ((⟨g, k, s, t, b, a, z, xs, us, fs⟩ : Ev) = ⟨g2, k2, s2, t2, b2, a2, z2, xs2, us2, fs2⟩) = c)) (H1 : EM w R W F xs us fs nr cr nw cw nf cf) (H2 : EM w R2 W2 F2 xs2 us2 fs2 nr2 cr2 nw2 cw2 nf2 cf2) : Calls Tryd.prog 87 #[Value.agg #[.int .i64 g, .int .i64 k, .bool s, .bool t, .int .i64 b, .int .i64 a, .int .i64 z, .slice R nr cr, .slice W nw cw, .slice F nf cf], Value.agg #[.int .i64 g2, .int .i64 k2, .bool s2, .bool t2, .int .i64 b2, .int .i64 a2, .int .i64 z2, .slice R2 nr2 cr2, .slice W2 nw2 cw2, .slice F2 nf2 cf2]] w fun e w' => e = .returned (.bool c) ∧ Plus w w' := by
  have e : sameB g k s t b a z g2 k2 s2 t2 b2 a2 z2 (decide (xs = xs2)) (decide (us = us2)) (decide (fs = fs2)) = c := by
    rw [← H.out]
    unfold sameB
    rw [Bool.eq_iff_iff]
    simp [and_assoc]
  rw [← e]
  exact same_c w (Lib.hid rfl) (Lib.hid rfl) (Lib.hid rfl) (Lib.hid H1) (Lib.hid H2)
end Go.Proofs.YtmfdlcicbiincaaDoor
