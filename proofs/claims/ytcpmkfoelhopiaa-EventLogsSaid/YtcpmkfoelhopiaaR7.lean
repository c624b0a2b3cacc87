/- The document's own CopyEvent. -/
import Derived.WalkKit
import Derived.WalkSpells
import Derived.WalkLawsBesides
import Derived.Handy
import Derived.Deep.RegionHeld3
import Derived.Deep.DeepCutAuto
import Derived.Deep.QuietTactic
import Derived.BigQuiet
import Derived.Lib.Hide
import Derived.KernelRfl
import Derived.WalkMore
import Derived.Deep.LoopGhost
import Derived.IntWalk
import Derived.Test.YtcpmkfoelhopiaaR6
namespace Go.Proofs.Ytcpmkfoelhopiaa
open Go.RowKit

set_option maxRecDepth 100000 in
set_option maxHeartbeats 4000000 in
theorem copyE_c {g k b a z : Int} {s t : Bool} {R W F : Option Addr} {nr cr nw cw nf cf : Nat} {xs us fs : List Int} (w : World) (h : EM w R W F xs us fs nr cr nw cw nf cf) (h1 : nr ≤ 1048576) (h2 : nw ≤ 1048576) (h3 : nf ≤ 1048576) : Calls Try.prog 34 #[Value.agg #[.int .i64 g, .int .i64 k, .bool s, .bool t, .int .i64 b, .int .i64 a, .int .i64 z, .slice R nr cr, .slice W nw cw, .slice F nf cf]] w (RetCl ⟨g, k, s, t, b, a, z, xs, us, fs⟩ w) := by
  have H := Lib.hid h
  clear h
  go_enter Try.func34, Try.ntmps34
  go_wp2_with fail
  go_region_with (first | (go_at_call_of 45 (Value.slice R nr cr); (with_reducible refine (copyB_c _ _ _ _ _ (H.out.er.plus (by repeat' (first | exact Plus.refl _ | refine Plus.alloc ?_ _ | refine Plus.plus ?_ _ | refine Plus.drew ?_ | refine Plus.drewN ?_ _))) (by omega)).mono ?_); rintro e x1w ⟨D1, D1c, rfl, hD1, ⟨x1, rfl⟩⟩; have HD1 := Lib.hid hD1; clear hD1) | (go_at_call_of 45 (Value.slice W nw cw); (with_reducible refine (copyB_c _ _ _ _ _ (H.out.ew.plus (by repeat' (first | exact Plus.refl _ | refine Plus.alloc ?_ _ | refine Plus.plus ?_ _ | refine Plus.drew ?_ | refine Plus.drewN ?_ _))) (by omega)).mono ?_); rintro e x2w ⟨D2, D2c, rfl, hD2, ⟨x2, rfl⟩⟩; have HD2 := Lib.hid hD2; clear hD2) | (go_at_call_of 46 (Value.slice F nf cf); (with_reducible refine (copyI_c _ _ _ _ _ (H.out.ef.plus (by repeat' (first | exact Plus.refl _ | refine Plus.alloc ?_ _ | refine Plus.plus ?_ _ | refine Plus.drew ?_ | refine Plus.drewN ?_ _))) (by omega)).mono ?_); rintro e x3w ⟨D3, D3c, rfl, hD3, ⟨x3, rfl⟩⟩; have HD3 := Lib.hid hD3; clear hD3))
  all_goals go_wp2_with fail
  all_goals go_returns
  all_goals refine ⟨D1, D1c, D2, D2c, D3, D3c, rfl, ⟨?_, ?_, ?_, H.out.br, H.out.bw⟩, (by repeat' (first | exact Plus.refl _ | refine Plus.alloc ?_ _ | refine Plus.plus ?_ _ | refine Plus.drew ?_ | refine Plus.drewN ?_ _))⟩
  all_goals dsimp only
  all_goals first | with_reducible exact pos1 HD1.out (by simp [go_sem]) (Nat.le_refl _) (by simp [go_sem] <;> omega) | with_reducible exact pos2 HD1.out (by simp [go_sem]) (Nat.le_refl _) (by simp [go_sem] <;> omega) | with_reducible exact pos3 HD1.out (by simp [go_sem]) (Nat.le_refl _) (by simp [go_sem] <;> omega) | with_reducible exact pos1 HD2.out (by simp [go_sem]) (Nat.le_refl _) (by simp [go_sem] <;> omega) | with_reducible exact pos2 HD2.out (by simp [go_sem]) (Nat.le_refl _) (by simp [go_sem] <;> omega) | with_reducible exact pos3 HD2.out (by simp [go_sem]) (Nat.le_refl _) (by simp [go_sem] <;> omega) | with_reducible exact pos1 HD3.out (by simp [go_sem]) (Nat.le_refl _) (by simp [go_sem] <;> omega) | with_reducible exact pos2 HD3.out (by simp [go_sem]) (Nat.le_refl _) (by simp [go_sem] <;> omega) | with_reducible exact pos3 HD3.out (by simp [go_sem]) (Nat.le_refl _) (by simp [go_sem] <;> omega)
end Go.Proofs.Ytcpmkfoelhopiaa
