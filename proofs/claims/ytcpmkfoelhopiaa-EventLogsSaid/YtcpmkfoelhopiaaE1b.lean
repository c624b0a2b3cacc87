/- Contract: Overlap. -/
import Derived.WalkKit
import Derived.WalkSpells
import Derived.WalkLawsBesides
import Derived.Handy
import Derived.Deep.RegionHeld3
import Derived.Deep.DeepCutAuto
import Derived.Deep.QuietTactic
import Derived.BigQuiet
import Derived.Lib.Hide
import Derived.KernelRfl
import Derived.WalkMore
import Derived.Deep.LoopGhost
import Derived.IntWalk
import Derived.Test.YtcpmkfoelhopiaaE1
namespace Go.Proofs.Ytcpmkfoelhopiaa
open Go.RowKit

theorem ret_bool {a b : Bool} (h : a = b) : Ending.returned (.bool a) = .returned (.bool b) := by rw [h]
theorem u64_sub {a b : Int} (ha : I64 a) (hb : I64 b) (h : b ≤ a) : IntKind.u64.wrap (IntKind.u64.wrap a - IntKind.u64.wrap b) = a - b := by
  unfold I64 at ha hb
  simp only [IntKind.wrap, IntKind.bits, IntKind.signed]
  simp
  omega
set_option maxRecDepth 100000 in
set_option maxHeartbeats 4000000 in
theorem over_c {g k b a z : Int} {s t : Bool} {R W F : Option Addr} {nr cr nw cw nf cf : Nat} {g2 k2 b2 a2 z2 : Int} {s2 t2 : Bool} {R2 W2 F2 : Option Addr} {nr2 cr2 nw2 cw2 nf2 cf2 : Nat} (w : World) (ha : I64 a) (hz : I64 z) (ha2 : I64 a2) (hz2 : I64 z2) : Calls Try.prog 18 #[Value.agg #[.int .i64 g, .int .i64 k, .bool s, .bool t, .int .i64 b, .int .i64 a, .int .i64 z, .slice R nr cr, .slice W nw cw, .slice F nf cf], Value.agg #[.int .i64 g2, .int .i64 k2, .bool s2, .bool t2, .int .i64 b2, .int .i64 a2, .int .i64 z2, .slice R2 nr2 cr2, .slice W2 nw2 cw2, .slice F2 nf2 cf2]] w fun e w' => e = .returned (.bool (overM k b a z k2 b2 a2 z2)) ∧ Plus w w' := by
  obtain ⟨c, hc⟩ : ∃ c, rangesM k k2 = c := ⟨_, rfl⟩
  have HR := Lib.hid hc
  obtain ⟨h1, h2⟩ := ha
  obtain ⟨h3, h4⟩ := hz
  obtain ⟨h5, h6⟩ := ha2
  obtain ⟨h7, h8⟩ := hz2
  clear hc
  by_cases d : b = b2 ∧ 1 ≤ z ∧ 1 ≤ z2 ∧ c = true
  · obtain ⟨rfl, d1, d2, rfl⟩ := d
    by_cases d3 : a2 < a
    · have HO : Hid (overM k b a z k2 b a2 z2 = decide (a - a2 < z2)) := Lib.hid (by unfold overM; rw [HR.out, Bool.eq_iff_iff]; simp; omega)
      have HS : Hid (IntKind.u64.wrap (IntKind.u64.wrap a - IntKind.u64.wrap a2) = a - a2) := Lib.hid (u64_sub ⟨h1, h2⟩ ⟨h5, h6⟩ (by omega))
      go_enter Try.func18, Try.ntmps18
      go_wp2_with (go_at_call 29; (with_reducible refine (ranges_n HR _).mono ?_); rintro e w1 ⟨rfl, ⟨x, rfl⟩⟩)
      all_goals go_returns
      all_goals exact ⟨ret_bool (by rw [HO.out, HS.out]), (by repeat' (first | exact Plus.refl _ | refine Plus.alloc ?_ _ | refine Plus.plus ?_ _ | refine Plus.drew ?_ | refine Plus.drewN ?_ _))⟩
    · have HO : Hid (overM k b a z k2 b a2 z2 = decide (a2 - a < z)) := Lib.hid (by unfold overM; rw [HR.out, Bool.eq_iff_iff]; simp; omega)
      have HS : Hid (IntKind.u64.wrap (IntKind.u64.wrap a2 - IntKind.u64.wrap a) = a2 - a) := Lib.hid (u64_sub ⟨h5, h6⟩ ⟨h1, h2⟩ (by omega))
      go_enter Try.func18, Try.ntmps18
      go_wp2_with (go_at_call 29; (with_reducible refine (ranges_n HR _).mono ?_); rintro e w1 ⟨rfl, ⟨x, rfl⟩⟩)
      all_goals go_returns
      all_goals exact ⟨ret_bool (by rw [HO.out, HS.out]), (by repeat' (first | exact Plus.refl _ | refine Plus.alloc ?_ _ | refine Plus.plus ?_ _ | refine Plus.drew ?_ | refine Plus.drewN ?_ _))⟩
  · have HO : Hid (overM k b a z k2 b2 a2 z2 = false) := Lib.hid (by unfold overM; rw [HR.out]; cases c <;> simp at d ⊢; omega)
    cases c
    all_goals
      go_enter Try.func18, Try.ntmps18
      go_wp2_with (go_at_call 29; (with_reducible refine (ranges_n HR _).mono ?_); rintro e w1 ⟨rfl, ⟨x, rfl⟩⟩)
      all_goals go_returns
      all_goals (try subst_vars)
      all_goals exact ⟨ret_bool (Eq.trans (by first | rfl | (exfalso; simp at d; omega)) HO.out.symm), (by repeat' (first | exact Plus.refl _ | refine Plus.alloc ?_ _ | refine Plus.plus ?_ _ | refine Plus.drew ?_ | refine Plus.drewN ?_ _))⟩
end Go.Proofs.Ytcpmkfoelhopiaa
