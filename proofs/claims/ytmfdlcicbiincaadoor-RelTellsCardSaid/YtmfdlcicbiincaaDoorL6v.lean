/- Walk of RelHeads. -/
import Derived.WalkKit
import Derived.WalkSpells
import Derived.WalkLawsBesides
import Derived.Handy
import Derived.Deep.RegionHeld3
import Derived.Deep.DeepCutAuto
import Derived.Deep.QuietTactic
import Derived.BigQuiet
import Derived.Lib.Hide
import Derived.KernelRfl
import Derived.WalkMore
import Derived.Deep.LoopGhost
import Derived.IntWalk
import Derived.Deep.RegionLaw
import Derived.RangeFuncBox
import Derived.Test.YtmfdlcicbiincaaDoorF1
import Derived.Test.YtmfdlcicbiincaaDoorK18
namespace Go.Proofs.YtmfdlcicbiincaaDoor
open Go.RowKit


def FewP (b : Bool) (l : List Ev) (n m : Nat) : Prop := b = true → (n : Int) ≤ 60 ∧ (m : Int) ≤ 60 ∧ SmL l
def RetFp (l : List Ev) (n m : Nat) (w : World) (e : Ending) (w' : World) : Prop := ∃ b : Bool, e = .returned (.bool b) ∧ FewP b l n m ∧ Plus w w'
theorem few_t {l : List Ev} {ps : List Pr} {A B : Option Addr} {n c m d : Nat} (w : World) (h : Lg w l ps A n c B m d) : Calls Tryd.prog 11 #[.agg #[.slice A n c, .slice B m d], .int .i64 60] w (RetFp l n m w) := few_s w h (by omega) (by omega)
/-- What is made of a log and of its head. -/
def TwoR (w : World) (l : List Ev) (ps : List Pr) (n N K1 K2 : Nat) (A : Option Addr) (c : Nat) (B : Option Addr) (m d : Nat) (s5 s6 : Value) (wx : World) : Prop := ∃ p1 p2 B1 B2 hs1 hs2, s5 = .pointer (some ⟨p1, 0, none⟩) ∧ s6 = .pointer (some ⟨p2, 0, none⟩) ∧ Rl wx B1 p1 n K1 (befB l ps) hs1 ∧ Rl wx B2 p2 N K2 (befB (l.take N) (ps.filter (amB N))) hs2 ∧ Bx wx w.heap.size (.slice A n c) (.slice B m d) ∧ Plus w wx
end Go.Proofs.YtmfdlcicbiincaaDoor
