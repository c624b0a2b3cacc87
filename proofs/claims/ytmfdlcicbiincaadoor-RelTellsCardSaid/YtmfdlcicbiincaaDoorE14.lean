/- first: the chapter's examples. -/
import Derived.WalkKit
import Derived.WalkSpells
import Derived.WalkLawsBesides
import Derived.Handy
import Derived.Deep.RegionHeld3
import Derived.Deep.DeepCutAuto
import Derived.Deep.QuietTactic
import Derived.BigQuiet
import Derived.Lib.Hide
import Derived.KernelRfl
import Derived.WalkMore
import Derived.Deep.LoopGhost
import Derived.IntWalk
import Derived.Test.YtmfdlcicbiincaaDoorE13
namespace Go.Proofs.YtmfdlcicbiincaaDoor
open Go.RowKit

@[go_sem] theorem run_field31 (A B : Option Addr) (n c m d : Nat) (w : World) : (Instr.field 25 (.agg #[.slice A n c, .slice B m d]) 0).run Tryd.prog w = .ok (.slice A n c) w := by kernel_rfl
theorem equal_n {r : Bool} {g k b a z : Int} {s t : Bool} {R W F : Option Addr} {nr cr nw cw nf cf : Nat} {g2 k2 b2 a2 z2 : Int} {s2 t2 : Bool} {R2 W2 F2 : Option Addr} {nr2 cr2 nw2 cw2 nf2 cf2 : Nat} (h : Hid (equalM k b a z k2 b2 a2 z2 = r)) (w : World) : Calls Tryd.prog 22 #[Value.agg #[.int .i64 g, .int .i64 k, .bool s, .bool t, .int .i64 b, .int .i64 a, .int .i64 z, .slice R nr cr, .slice W nw cw, .slice F nf cf], Value.agg #[.int .i64 g2, .int .i64 k2, .bool s2, .bool t2, .int .i64 b2, .int .i64 a2, .int .i64 z2, .slice R2 nr2 cr2, .slice W2 nw2 cw2, .slice F2 nf2 cf2]] w fun e w' => e = .returned (.bool r) ∧ Plus w w' := by
  rw [← h.out]
  exact equal_c w
/-- May, as a truth. -/
def MayR (l : List Ev) (ps : List Pr) (r : Bool) : Prop := MayP l ps ↔ r = true
theorem may_r {A B : Option Addr} {rs : List ER} {ps : List Pr} {n c m d : Nat} {r : Bool} (w : World) (H : Hid (MayR (rs.map (·.e)) ps r)) (he : Es w A rs n c) (hp : Pa w B ps m d) : Calls Tryd.prog 20 #[.agg #[.slice A n c, .slice B m d]] w fun e w' => e = .returned (.bool r) ∧ Plus w w' := may_n w H he hp
/-- Two logs are the same. -/
def SameR (l l2 : List Ev) (ps qs : List Pr) (r : Bool) : Prop := decide (l = l2 ∧ ps = qs) = r
def RetTwo (w : World) (e : Ending) (w' : World) : Prop := ∃ (A : Option Addr) (rs : List ER), e = .returned (.agg #[.slice A 2 2, .slice none 0 0]) ∧ Es w' A rs 2 2 ∧ rs.map (·.e) = [two1, two2] ∧ Plus w w'
theorem two_acc : Acc [two1, two2] := fun n hn => by
  rcases n with _ | _ | n
  · exact ⟨by decide, fun i hi => absurd hi (by simp [two1])⟩
  · refine ⟨by decide, fun i hi => ?_⟩
    rcases i with _ | i
    · decide
    · exact absurd hi (by show ¬ i + 1 < 1; omega)
  · exact absurd hn (by show ¬ n + 1 + 1 < 2; omega)
theorem two_may (w : World) : MayR ((twoR w).map (·.e)) [] true := ⟨fun _ => rfl, fun _ => ⟨by show 2 ≤ 1000; omega, by simp, fun i h => absurd h (by simp), two_acc⟩⟩
def RetH1 (w : World) (e : Ending) (w' : World) : Prop := ∃ (V : Option Addr) (c : Nat) (V2 : Option Addr) (c2 : Nat), e = .returned (.agg #[.slice V 1 c, .slice V2 0 c2]) ∧ Plus w w'
theorem two_head {A : Option Addr} {w0 : World} (w : World) (he : Es w A (twoR w0) 2 2) : Calls Tryd.prog 38 #[.agg #[.slice A 2 2, .slice none 0 0], .int .i64 1] w (RetH1 w) :=
  (head_n (z := 1) w he (Pa.nil w 0 (by omega) none) (fun x hx => by
    unfold twoR at hx
    simp only [List.mem_cons, List.not_mem_nil, or_false] at hx
    rcases hx with rfl | rfl <;> simp [two1, two2]) (by omega) (by omega)).mono fun _ _ ⟨V, c, ys, V2, c2, h1, _, _, _, h5, h6⟩ => by
    have hl : ys.length = 1 := by
      have q := congrArg List.length h5
      rw [List.length_map] at q
      exact q
    rw [hl] at h1
    exact ⟨V, c, V2, c2, h1, h6⟩
theorem i64s (a : Int) (h : 0 ≤ a ∧ a ≤ 100) : I64 a := by unfold I64; omega
end Go.Proofs.YtmfdlcicbiincaaDoor
