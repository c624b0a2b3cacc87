/- first: the chapter's examples. -/
import Derived.WalkKit
import Derived.WalkSpells
import Derived.WalkLawsBesides
import Derived.Handy
import Derived.Deep.RegionHeld3
import Derived.Deep.DeepCutAuto
import Derived.Deep.QuietTactic
import Derived.BigQuiet
import Derived.Lib.Hide
import Derived.KernelRfl
import Derived.WalkMore
import Derived.Deep.LoopGhost
import Derived.IntWalk
import Derived.Test.YtcpmkfoelhopiaaE13
namespace Go.Proofs.Ytcpmkfoelhopiaa
open Go.RowKit

@[go_sem] theorem run_field31 (A B : Option Addr) (n c m d : Nat) (w : World) : (Instr.field 31 (.agg #[.slice A n c, .slice B m d]) 0).run Try.prog w = .ok (.slice A n c) w := by kernel_rfl
theorem over_n {r : Bool} {g k b a z : Int} {s t : Bool} {R W F : Option Addr} {nr cr nw cw nf cf : Nat} {g2 k2 b2 a2 z2 : Int} {s2 t2 : Bool} {R2 W2 F2 : Option Addr} {nr2 cr2 nw2 cw2 nf2 cf2 : Nat} (h : Hid (overM k b a z k2 b2 a2 z2 = r)) (w : World) (ha : I64 a) (hz : I64 z) (ha2 : I64 a2) (hz2 : I64 z2) : Calls Try.prog 18 #[Value.agg #[.int .i64 g, .int .i64 k, .bool s, .bool t, .int .i64 b, .int .i64 a, .int .i64 z, .slice R nr cr, .slice W nw cw, .slice F nf cf], Value.agg #[.int .i64 g2, .int .i64 k2, .bool s2, .bool t2, .int .i64 b2, .int .i64 a2, .int .i64 z2, .slice R2 nr2 cr2, .slice W2 nw2 cw2, .slice F2 nf2 cf2]] w fun e w' => e = .returned (.bool r) ∧ Plus w w' := by
  rw [← h.out]
  exact over_c w ha hz ha2 hz2
theorem equal_n {r : Bool} {g k b a z : Int} {s t : Bool} {R W F : Option Addr} {nr cr nw cw nf cf : Nat} {g2 k2 b2 a2 z2 : Int} {s2 t2 : Bool} {R2 W2 F2 : Option Addr} {nr2 cr2 nw2 cw2 nf2 cf2 : Nat} (h : Hid (equalM k b a z k2 b2 a2 z2 = r)) (w : World) : Calls Try.prog 16 #[Value.agg #[.int .i64 g, .int .i64 k, .bool s, .bool t, .int .i64 b, .int .i64 a, .int .i64 z, .slice R nr cr, .slice W nw cw, .slice F nf cf], Value.agg #[.int .i64 g2, .int .i64 k2, .bool s2, .bool t2, .int .i64 b2, .int .i64 a2, .int .i64 z2, .slice R2 nr2 cr2, .slice W2 nw2 cw2, .slice F2 nf2 cf2]] w fun e w' => e = .returned (.bool r) ∧ Plus w w' := by
  rw [← h.out]
  exact equal_c w
theorem reads_n {c : Bool} {g k b a z : Int} {s t : Bool} {R W F : Option Addr} {nr cr nw cw nf cf : Nat} (h : Hid (readsM k = c)) (w : World) : Calls Try.prog 12 #[Value.agg #[.int .i64 g, .int .i64 k, .bool s, .bool t, .int .i64 b, .int .i64 a, .int .i64 z, .slice R nr cr, .slice W nw cw, .slice F nf cf]] w fun e w' => e = .returned (.bool c) ∧ Plus w w' := by
  rw [← h.out]
  exact reads_c w
/-- May, as a truth. -/
def MayR (l : List Ev) (ps : List Pr) (r : Bool) : Prop := MayP l ps ↔ r = true
theorem may_r {A B : Option Addr} {rs : List ER} {ps : List Pr} {n c m d : Nat} {r : Bool} (w : World) (H : Hid (MayR (rs.map (·.e)) ps r)) (he : Es w A rs n c) (hp : Pa w B ps m d) : Calls Try.prog 24 #[.agg #[.slice A n c, .slice B m d]] w fun e w' => e = .returned (.bool r) ∧ Plus w w' := may_n w H he hp
/-- Two logs are the same. -/
def SameR (l l2 : List Ev) (ps qs : List Pr) (r : Bool) : Prop := decide (l = l2 ∧ ps = qs) = r
theorem sameL_r {A C B D : Option Addr} {rs rs2 : List ER} {ps qs : List Pr} {n c m d n2 c2 m2 d2 : Nat} {r : Bool} (w : World) (H : Hid (SameR (rs.map (·.e)) (rs2.map (·.e)) ps qs r)) (ha : Es w A rs n c) (hb : Es w C rs2 m d) (hp : Pa w B ps n2 c2) (hq : Pa w D qs m2 d2) :
    Calls Try.prog 26 #[.agg #[.slice A n c, .slice B n2 c2], .agg #[.slice C m d, .slice D m2 d2]] w fun e w' => e = .returned (.bool r) ∧ Plus w w' := sameL_n w H ha hb hp hq
def RetTwo (w : World) (e : Ending) (w' : World) : Prop := ∃ (A : Option Addr) (rs : List ER), e = .returned (.agg #[.slice A 2 2, .slice none 0 0]) ∧ Es w' A rs 2 2 ∧ rs.map (·.e) = [two1, two2] ∧ Plus w w'
theorem two_q (w : World) : Calls Try.prog 28 #[] w (RetTwo w) := (two_p w).mono fun _ _ ⟨h1, h2, h3⟩ => ⟨_, _, h1, h2, rfl, h3⟩
theorem two_acc : Acc [two1, two2] := fun n hn => by
  rcases n with _ | _ | n
  · exact ⟨by decide, fun i hi => absurd hi (by simp [two1])⟩
  · refine ⟨by decide, fun i hi => ?_⟩
    rcases i with _ | i
    · decide
    · exact absurd hi (by show ¬ i + 1 < 1; omega)
  · exact absurd hn (by show ¬ n + 1 + 1 < 2; omega)
theorem two_may (w : World) : MayR ((twoR w).map (·.e)) [] true := ⟨fun _ => rfl, fun _ => ⟨by show 2 ≤ 1000; omega, by simp, fun i h => absurd h (by simp), two_acc⟩⟩
def RetH1 (w : World) (e : Ending) (w' : World) : Prop := ∃ (V : Option Addr) (c : Nat) (V2 : Option Addr) (c2 : Nat), e = .returned (.agg #[.slice V 1 c, .slice V2 0 c2]) ∧ Plus w w'
theorem two_head {A : Option Addr} {w0 : World} (w : World) (he : Es w A (twoR w0) 2 2) : Calls Try.prog 21 #[.agg #[.slice A 2 2, .slice none 0 0], .int .i64 1] w (RetH1 w) :=
  (head_n (z := 1) w he (Pa.nil w 0 (by omega) none) (fun x hx => by
    unfold twoR at hx
    simp only [List.mem_cons, List.not_mem_nil, or_false] at hx
    rcases hx with rfl | rfl <;> simp [two1, two2]) (by omega) (by omega)).mono fun _ _ ⟨V, c, ys, V2, c2, h1, _, _, _, h5, h6⟩ => by
    have hl : ys.length = 1 := by
      have q := congrArg List.length h5
      rw [List.length_map] at q
      exact q
    rw [hl] at h1
    exact ⟨V, c, V2, c2, h1, h6⟩
theorem i64s (a : Int) (h : 0 ≤ a ∧ a ≤ 100) : I64 a := by unfold I64; omega
set_option maxRecDepth 100000 in
set_option maxHeartbeats 16000000 in
theorem first_c (w : World) : Calls Try.prog 9 #[] w fun e w' => e = .returned (.bool true) ∧ Plus w w' := by
  have HM := Lib.hid (two_may w)
  have HO : Hid (overM 2 0 0 2 1 0 1 1 = true) := Lib.hid (by decide)
  have HQ : Hid (equalM 2 0 0 2 1 0 1 1 = false) := Lib.hid (by decide)
  have HR : Hid (readsM 1 = true) := Lib.hid (by decide)
  have HW : Hid (writesM 2 = true) := Lib.hid (by decide)
  have HS : Hid (∀ rs2 : List ER, rs2.map (·.e) = [two1, two2] → SameR ((twoR w).map (·.e)) (rs2.map (·.e)) [] [] true) := Lib.hid fun rs2 h => by unfold SameR; rw [h]; simp [twoR]
  have i1 := i64s 0 (by omega)
  have i2 := i64s 2 (by omega)
  have i3 := i64s 1 (by omega)
  have HE := Lib.hid (two_es w)
  go_enter Try.func9, Try.ntmps9
  go_wp2_with (go_at_call 28; (with_reducible refine (two_c _).mono ?_); rintro e w1 ⟨rfl, rfl⟩)
  go_region_held3 (fun w' => w'.cell? ⟨w.heap.size + 1 + 1 + 1 + 1 + 1, 0, none⟩ = some (.slice (some ⟨w.heap.size + 1 + 1 + 1 + 1, 0, none⟩) 2 2) ∧ w'.cell? ⟨w.heap.size + 1 + 1 + 1 + 1 + 1, 1, none⟩ = some (.slice none 0 0) ∧ w'.cell? ⟨w.heap.size + 1 + 1 + 1 + 1, 0, none⟩ = some (.int .i64 0) ∧ w'.cell? ⟨w.heap.size + 1 + 1 + 1 + 1, 1, none⟩ = some (.int .i64 2) ∧ w'.cell? ⟨w.heap.size + 1 + 1 + 1 + 1, 2, none⟩ = some (.bool false) ∧ w'.cell? ⟨w.heap.size + 1 + 1 + 1 + 1, 3, none⟩ = some (.bool false) ∧ w'.cell? ⟨w.heap.size + 1 + 1 + 1 + 1, 4, none⟩ = some (.int .i64 0) ∧ w'.cell? ⟨w.heap.size + 1 + 1 + 1 + 1, 5, none⟩ = some (.int .i64 0) ∧ w'.cell? ⟨w.heap.size + 1 + 1 + 1 + 1, 6, none⟩ = some (.int .i64 2) ∧ w'.cell? ⟨w.heap.size + 1 + 1 + 1 + 1, 7, none⟩ = some (.slice none 0 0) ∧ w'.cell? ⟨w.heap.size + 1 + 1 + 1 + 1, 8, none⟩ = some (.slice (some ⟨w.heap.size + 1, 0, none⟩) 2 2) ∧ w'.cell? ⟨w.heap.size + 1 + 1 + 1 + 1, 9, none⟩ = some (.slice none 0 0) ∧ w'.cell? ⟨w.heap.size + 1 + 1 + 1 + 1, 10, none⟩ = some (.int .i64 1) ∧ w'.cell? ⟨w.heap.size + 1 + 1 + 1 + 1, 11, none⟩ = some (.int .i64 1) ∧ w'.cell? ⟨w.heap.size + 1 + 1 + 1 + 1, 12, none⟩ = some (.bool false) ∧ w'.cell? ⟨w.heap.size + 1 + 1 + 1 + 1, 13, none⟩ = some (.bool false) ∧ w'.cell? ⟨w.heap.size + 1 + 1 + 1 + 1, 14, none⟩ = some (.int .i64 0) ∧ w'.cell? ⟨w.heap.size + 1 + 1 + 1 + 1, 15, none⟩ = some (.int .i64 1) ∧ w'.cell? ⟨w.heap.size + 1 + 1 + 1 + 1, 16, none⟩ = some (.int .i64 1) ∧ w'.cell? ⟨w.heap.size + 1 + 1 + 1 + 1, 17, none⟩ = some (.slice (some ⟨w.heap.size + 1 + 1, 0, none⟩) 1 1) ∧ w'.cell? ⟨w.heap.size + 1 + 1 + 1 + 1, 18, none⟩ = some (.slice none 0 0) ∧ w'.cell? ⟨w.heap.size + 1 + 1 + 1 + 1, 19, none⟩ = some (.slice (some ⟨w.heap.size + 1 + 1 + 1, 0, none⟩) 1 1)) (refine ⟨?_, ?_, ?_, ?_, ?_, ?_, ?_, ?_, ?_, ?_, ?_, ?_, ?_, ?_, ?_, ?_, ?_, ?_, ?_, ?_, ?_, ?_⟩ <;> simp [go_sem]) (first | (go_at_call 24; (with_reducible refine (may_r _ HM (HE.out.plus (by repeat' (first | exact Plus.refl _ | refine Plus.alloc ?_ _ | refine Plus.plus ?_ _ | refine Plus.drew ?_ | refine Plus.drewN ?_ _))) (Pa.nil _ _ (Nat.zero_le _) _)).mono ?_); rintro e w1 ⟨rfl, ⟨x1, rfl⟩⟩) | (go_at_call 18; (with_reducible refine (over_n HO _ i1 i2 i3 i3).mono ?_); rintro e w1 ⟨rfl, ⟨x2, rfl⟩⟩) | (go_at_call 16; (with_reducible refine (equal_n HQ _).mono ?_); rintro e w1 ⟨rfl, ⟨x3, rfl⟩⟩) | (go_at_call 21; (with_reducible refine (two_head _ (HE.out.plus (by repeat' (first | exact Plus.refl _ | refine Plus.alloc ?_ _ | refine Plus.plus ?_ _ | refine Plus.drew ?_ | refine Plus.drewN ?_ _)))).mono ?_); rintro e w1 ⟨V, c1, V2, c2, rfl, ⟨x4, rfl⟩⟩) | (go_at_call 28; (with_reducible refine (two_q _).mono ?_); rintro e w1 ⟨A2, rs2, rfl, hE2, hM2, ⟨x5, rfl⟩⟩; have HE2 := Lib.hid hE2; have HS2 := Lib.hid (HS.out rs2 hM2); clear hE2 hM2) | (go_at_call 26; (with_reducible refine (sameL_r _ HS2 (HE.out.plus (by repeat' (first | exact Plus.refl _ | refine Plus.alloc ?_ _ | refine Plus.plus ?_ _ | refine Plus.drew ?_ | refine Plus.drewN ?_ _))) (HE2.out.plus (by repeat' (first | exact Plus.refl _ | refine Plus.alloc ?_ _ | refine Plus.plus ?_ _ | refine Plus.drew ?_ | refine Plus.drewN ?_ _))) (Pa.nil _ _ (Nat.zero_le _) _) (Pa.nil _ _ (Nat.zero_le _) _)).mono ?_); rintro e w1 ⟨rfl, ⟨x6, rfl⟩⟩) | (go_at_call 12; (with_reducible refine (reads_n HR _).mono ?_); rintro e w1 ⟨rfl, ⟨x7, rfl⟩⟩) | (go_at_call 14; (with_reducible refine (writes_n HW _).mono ?_); rintro e w1 ⟨rfl, ⟨x8, rfl⟩⟩))
  all_goals go_wp2_with fail
  all_goals go_returns
  all_goals exact ⟨rfl, (by repeat' (first | exact Plus.refl _ | refine Plus.alloc ?_ _ | refine Plus.plus ?_ _ | refine Plus.drew ?_ | refine Plus.drewN ?_ _))⟩
end Go.Proofs.Ytcpmkfoelhopiaa
