/- Changes, told as the document tells them: the walk. -/
import Derived.WalkKit
import Derived.WalkSpells
import Derived.WalkLawsBesides
import Derived.Handy
import Derived.Deep.RegionHeld3
import Derived.Deep.DeepCutAuto
import Derived.Deep.QuietTactic
import Derived.BigQuiet
import Derived.Lib.Hide
import Derived.KernelRfl
import Derived.WalkMore
import Derived.Deep.LoopGhost
import Derived.Test.YtjojkogmbgppcaaC9
import Derived.Test.YtjojkogmbgppcaaR1
namespace Go.Proofs.Ytjojkogmbgppcaa
open Go.RowKit


set_option maxRecDepth 100000 in
set_option maxHeartbeats 4000000 in
theorem changes_h (k op : Int) (a b s r : Nat) (ok : Bool) (w : World) (hs : Hid (SzN k s)) (hc : Hid (ChN k op a b r ok)) (hr : Hid (RcN s op a b r ok)) :
    Calls Try.prog 5 #[.int .i64 k, .int .i64 op, .int .u64 (a : Int), .int .u64 (b : Int)] w fun e w' => e = .returned (.bool true) ∧ Plus w w' := by
  go_enter Try.func5, Try.ntmps5
  go_wp2_with fail
  with_reducible refine (first_c _).mono ?_
  rintro e w1 ⟨rfl, ⟨y0, rfl⟩⟩
  go_wp2_with fail
  with_reducible refine (refSize_n hs _).mono ?_
  rintro e w1 ⟨rfl, ⟨y1, rfl⟩⟩
  go_wp2_with fail
  with_reducible refine (change_n hc _).mono ?_
  rintro e w1 ⟨rfl, ⟨y2, rfl⟩⟩
  go_wp2_with fail
  with_reducible refine (refChange_n hr _).mono ?_
  rintro e w1 ⟨rfl, ⟨y3, rfl⟩⟩
  go_wp2_with fail
  with_reducible refine (first_c _).mono ?_
  rintro e w1 ⟨rfl, ⟨y4, rfl⟩⟩
  go_wp2_with fail
  go_ret
  exact ⟨rfl, (by repeat' (first | exact Plus.refl _ | refine Plus.alloc ?_ _ | refine Plus.plus ?_ _ | refine Plus.drew ?_ | refine Plus.drewN ?_ _))⟩

theorem changes_w (k op : Int) (a b : Nat) (w : World) (ha : a < 18446744073709551616) (hb : b < 18446744073709551616) : Calls Try.prog 5 #[.int .i64 k, .int .i64 op, .int .u64 (a : Int), .int .u64 (b : Int)] w fun e w' => e = .returned (.bool true) ∧ Plus w w' :=
  changes_h k op a b (szK k) (chW k op a b) (chB k op) w (Lib.hid rfl) (Lib.hid ⟨rfl, rfl, ha, hb⟩) (Lib.hid ⟨rc_ch k op a b, rcB_ch k op, szK_cases k, ha, hb⟩)
end Go.Proofs.Ytjojkogmbgppcaa
