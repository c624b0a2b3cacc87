/- Kinds with a sign and without: the walk. -/
import Derived.WalkKit
import Derived.WalkSpells
import Derived.WalkLawsBesides
import Derived.Handy
import Derived.Deep.RegionHeld3
import Derived.Deep.DeepCutAuto
import Derived.Deep.QuietTactic
import Derived.BigQuiet
import Derived.Lib.Hide
import Derived.KernelRfl
import Derived.WalkMore
import Derived.Deep.LoopGhost
import Derived.Test.YtjojkogmbgppcaaC9
import Derived.Test.YtjojkogmbgppcaaR1
import Derived.Test.YtjojkogmbgppcaaC10
import Derived.Test.YtjojkogmbgppcaaL3w
namespace Go.Proofs.Ytjojkogmbgppcaa
open Go.RowKit


set_option maxRecDepth 100000 in
set_option maxHeartbeats 8000000 in
theorem pairs_s (k op sk uk : Int) (a b r s : Nat) (ok : Bool) (xs : List Nat) (p q M : Int) (w : World)
    (hk : (k = 1 ∧ sk = 1 ∧ uk = 2 ∧ s = 1 ∧ M = 256) ∨ (k = 2 ∧ sk = 3 ∧ uk = 4 ∧ s = 2 ∧ M = 65536) ∨ (k = 3 ∧ sk = 5 ∧ uk = 6 ∧ s = 4 ∧ M = 4294967296)) (h1 : Hid (ChN sk op a b r ok)) (h2 : Hid (ChN uk op a b r ok)) (hs1 : Hid (SzN sk s)) (hs2 : Hid (SzN uk s)) (hx1 : Hid (BsN sk a xs s)) (hx2 : Hid (BsN uk a xs s)) (he : Hid (EqN xs xs true)) (t1 : Hid (TnN uk a p)) (t2 : Hid (TnN sk a q)) (hd : p - q = 0 ∨ p - q = M) :
    Calls Try.prog 9 #[.int .i64 k, .int .i64 op, .int .u64 (a : Int), .int .u64 (b : Int)] w fun e w' => e = .returned (.bool true) ∧ Plus w w' := by
  rcases hk with ⟨rfl, rfl, rfl, rfl, rfl⟩ | ⟨rfl, rfl, rfl, rfl, rfl⟩ | ⟨rfl, rfl, rfl, rfl, rfl⟩ <;> rcases hd with hd | hd
  · go_enter Try.func9, Try.ntmps9
    go_wp2_with fail
    with_reducible refine (first_c _).mono ?_
    rintro e w1 ⟨rfl, ⟨y0, rfl⟩⟩
    go_wp2_with fail
    with_reducible refine (change_n h1 _).mono ?_
    rintro e w1 ⟨rfl, ⟨y1, rfl⟩⟩
    go_wp2_with fail
    with_reducible refine (change_n h2 _).mono ?_
    rintro e w1 ⟨rfl, ⟨y2, rfl⟩⟩
    go_wp2_with fail
    with_reducible refine (bytes_n hx1 _).mono ?_
    rintro e w1 ⟨A, c, rfl, hA, ⟨y3, rfl⟩⟩
    have HA := Lib.hid hA
    clear hA
    go_wp2_with fail
    with_reducible refine (bytes_n hx2 _).mono ?_
    rintro e w1 ⟨B, d, rfl, hB, ⟨y4, rfl⟩⟩
    have HB := Lib.hid hB
    clear hB
    go_wp2_with fail
    with_reducible refine (refBytes_e he _ (HA.out.plus (by repeat' (first | exact Plus.refl _ | refine Plus.alloc ?_ _ | refine Plus.plus ?_ _ | refine Plus.drew ?_ | refine Plus.drewN ?_ _))) HB.out).mono ?_
    rintro e w1 ⟨rfl, ⟨y5, rfl⟩⟩
    go_wp2_with fail
    with_reducible refine (size_n hs1 _).mono ?_
    rintro e w1 ⟨rfl, ⟨y6, rfl⟩⟩
    go_wp2_with fail
    with_reducible refine (size_n hs2 _).mono ?_
    rintro e w1 ⟨rfl, ⟨y7, rfl⟩⟩
    go_wp2_with fail
    with_reducible refine (toNum_n t1 _).mono ?_
    rintro e w1 ⟨rfl, ⟨y8, rfl⟩⟩
    go_wp2_with fail
    with_reducible refine (toNum_n t2 _).mono ?_
    rintro e w1 ⟨rfl, ⟨y9, rfl⟩⟩
    go_wp2_with fail
    with_reducible refine (first_c _).mono ?_
    rintro e w1 ⟨rfl, ⟨z0, rfl⟩⟩
    go_wp2_with fail
    go_ret
    exact ⟨rfl, (by repeat' (first | exact Plus.refl _ | refine Plus.alloc ?_ _ | refine Plus.plus ?_ _ | refine Plus.drew ?_ | refine Plus.drewN ?_ _))⟩
  · go_enter Try.func9, Try.ntmps9
    go_wp2_with fail
    with_reducible refine (first_c _).mono ?_
    rintro e w1 ⟨rfl, ⟨y0, rfl⟩⟩
    go_wp2_with fail
    with_reducible refine (change_n h1 _).mono ?_
    rintro e w1 ⟨rfl, ⟨y1, rfl⟩⟩
    go_wp2_with fail
    with_reducible refine (change_n h2 _).mono ?_
    rintro e w1 ⟨rfl, ⟨y2, rfl⟩⟩
    go_wp2_with fail
    with_reducible refine (bytes_n hx1 _).mono ?_
    rintro e w1 ⟨A, c, rfl, hA, ⟨y3, rfl⟩⟩
    have HA := Lib.hid hA
    clear hA
    go_wp2_with fail
    with_reducible refine (bytes_n hx2 _).mono ?_
    rintro e w1 ⟨B, d, rfl, hB, ⟨y4, rfl⟩⟩
    have HB := Lib.hid hB
    clear hB
    go_wp2_with fail
    with_reducible refine (refBytes_e he _ (HA.out.plus (by repeat' (first | exact Plus.refl _ | refine Plus.alloc ?_ _ | refine Plus.plus ?_ _ | refine Plus.drew ?_ | refine Plus.drewN ?_ _))) HB.out).mono ?_
    rintro e w1 ⟨rfl, ⟨y5, rfl⟩⟩
    go_wp2_with fail
    with_reducible refine (size_n hs1 _).mono ?_
    rintro e w1 ⟨rfl, ⟨y6, rfl⟩⟩
    go_wp2_with fail
    with_reducible refine (size_n hs2 _).mono ?_
    rintro e w1 ⟨rfl, ⟨y7, rfl⟩⟩
    go_wp2_with fail
    with_reducible refine (toNum_n t1 _).mono ?_
    rintro e w1 ⟨rfl, ⟨y8, rfl⟩⟩
    go_wp2_with fail
    with_reducible refine (toNum_n t2 _).mono ?_
    rintro e w1 ⟨rfl, ⟨y9, rfl⟩⟩
    go_wp2_with fail
    with_reducible refine (first_c _).mono ?_
    rintro e w1 ⟨rfl, ⟨z0, rfl⟩⟩
    go_wp2_with fail
    with_reducible refine (size_n hs1 _).mono ?_
    rintro e w1 ⟨rfl, ⟨z1, rfl⟩⟩
    go_wp2_with fail
    go_ret
    exact ⟨rfl, (by repeat' (first | exact Plus.refl _ | refine Plus.alloc ?_ _ | refine Plus.plus ?_ _ | refine Plus.drew ?_ | refine Plus.drewN ?_ _))⟩
  · go_enter Try.func9, Try.ntmps9
    go_wp2_with fail
    with_reducible refine (first_c _).mono ?_
    rintro e w1 ⟨rfl, ⟨y0, rfl⟩⟩
    go_wp2_with fail
    with_reducible refine (change_n h1 _).mono ?_
    rintro e w1 ⟨rfl, ⟨y1, rfl⟩⟩
    go_wp2_with fail
    with_reducible refine (change_n h2 _).mono ?_
    rintro e w1 ⟨rfl, ⟨y2, rfl⟩⟩
    go_wp2_with fail
    with_reducible refine (bytes_n hx1 _).mono ?_
    rintro e w1 ⟨A, c, rfl, hA, ⟨y3, rfl⟩⟩
    have HA := Lib.hid hA
    clear hA
    go_wp2_with fail
    with_reducible refine (bytes_n hx2 _).mono ?_
    rintro e w1 ⟨B, d, rfl, hB, ⟨y4, rfl⟩⟩
    have HB := Lib.hid hB
    clear hB
    go_wp2_with fail
    with_reducible refine (refBytes_e he _ (HA.out.plus (by repeat' (first | exact Plus.refl _ | refine Plus.alloc ?_ _ | refine Plus.plus ?_ _ | refine Plus.drew ?_ | refine Plus.drewN ?_ _))) HB.out).mono ?_
    rintro e w1 ⟨rfl, ⟨y5, rfl⟩⟩
    go_wp2_with fail
    with_reducible refine (size_n hs1 _).mono ?_
    rintro e w1 ⟨rfl, ⟨y6, rfl⟩⟩
    go_wp2_with fail
    with_reducible refine (size_n hs2 _).mono ?_
    rintro e w1 ⟨rfl, ⟨y7, rfl⟩⟩
    go_wp2_with fail
    with_reducible refine (toNum_n t1 _).mono ?_
    rintro e w1 ⟨rfl, ⟨y8, rfl⟩⟩
    go_wp2_with fail
    with_reducible refine (toNum_n t2 _).mono ?_
    rintro e w1 ⟨rfl, ⟨y9, rfl⟩⟩
    go_wp2_with fail
    with_reducible refine (first_c _).mono ?_
    rintro e w1 ⟨rfl, ⟨z0, rfl⟩⟩
    go_wp2_with fail
    go_ret
    exact ⟨rfl, (by repeat' (first | exact Plus.refl _ | refine Plus.alloc ?_ _ | refine Plus.plus ?_ _ | refine Plus.drew ?_ | refine Plus.drewN ?_ _))⟩
  · go_enter Try.func9, Try.ntmps9
    go_wp2_with fail
    with_reducible refine (first_c _).mono ?_
    rintro e w1 ⟨rfl, ⟨y0, rfl⟩⟩
    go_wp2_with fail
    with_reducible refine (change_n h1 _).mono ?_
    rintro e w1 ⟨rfl, ⟨y1, rfl⟩⟩
    go_wp2_with fail
    with_reducible refine (change_n h2 _).mono ?_
    rintro e w1 ⟨rfl, ⟨y2, rfl⟩⟩
    go_wp2_with fail
    with_reducible refine (bytes_n hx1 _).mono ?_
    rintro e w1 ⟨A, c, rfl, hA, ⟨y3, rfl⟩⟩
    have HA := Lib.hid hA
    clear hA
    go_wp2_with fail
    with_reducible refine (bytes_n hx2 _).mono ?_
    rintro e w1 ⟨B, d, rfl, hB, ⟨y4, rfl⟩⟩
    have HB := Lib.hid hB
    clear hB
    go_wp2_with fail
    with_reducible refine (refBytes_e he _ (HA.out.plus (by repeat' (first | exact Plus.refl _ | refine Plus.alloc ?_ _ | refine Plus.plus ?_ _ | refine Plus.drew ?_ | refine Plus.drewN ?_ _))) HB.out).mono ?_
    rintro e w1 ⟨rfl, ⟨y5, rfl⟩⟩
    go_wp2_with fail
    with_reducible refine (size_n hs1 _).mono ?_
    rintro e w1 ⟨rfl, ⟨y6, rfl⟩⟩
    go_wp2_with fail
    with_reducible refine (size_n hs2 _).mono ?_
    rintro e w1 ⟨rfl, ⟨y7, rfl⟩⟩
    go_wp2_with fail
    with_reducible refine (toNum_n t1 _).mono ?_
    rintro e w1 ⟨rfl, ⟨y8, rfl⟩⟩
    go_wp2_with fail
    with_reducible refine (toNum_n t2 _).mono ?_
    rintro e w1 ⟨rfl, ⟨y9, rfl⟩⟩
    go_wp2_with fail
    with_reducible refine (first_c _).mono ?_
    rintro e w1 ⟨rfl, ⟨z0, rfl⟩⟩
    go_wp2_with fail
    with_reducible refine (size_n hs1 _).mono ?_
    rintro e w1 ⟨rfl, ⟨z1, rfl⟩⟩
    go_wp2_with fail
    go_ret
    exact ⟨rfl, (by repeat' (first | exact Plus.refl _ | refine Plus.alloc ?_ _ | refine Plus.plus ?_ _ | refine Plus.drew ?_ | refine Plus.drewN ?_ _))⟩
  · go_enter Try.func9, Try.ntmps9
    go_wp2_with fail
    with_reducible refine (first_c _).mono ?_
    rintro e w1 ⟨rfl, ⟨y0, rfl⟩⟩
    go_wp2_with fail
    with_reducible refine (change_n h1 _).mono ?_
    rintro e w1 ⟨rfl, ⟨y1, rfl⟩⟩
    go_wp2_with fail
    with_reducible refine (change_n h2 _).mono ?_
    rintro e w1 ⟨rfl, ⟨y2, rfl⟩⟩
    go_wp2_with fail
    with_reducible refine (bytes_n hx1 _).mono ?_
    rintro e w1 ⟨A, c, rfl, hA, ⟨y3, rfl⟩⟩
    have HA := Lib.hid hA
    clear hA
    go_wp2_with fail
    with_reducible refine (bytes_n hx2 _).mono ?_
    rintro e w1 ⟨B, d, rfl, hB, ⟨y4, rfl⟩⟩
    have HB := Lib.hid hB
    clear hB
    go_wp2_with fail
    with_reducible refine (refBytes_e he _ (HA.out.plus (by repeat' (first | exact Plus.refl _ | refine Plus.alloc ?_ _ | refine Plus.plus ?_ _ | refine Plus.drew ?_ | refine Plus.drewN ?_ _))) HB.out).mono ?_
    rintro e w1 ⟨rfl, ⟨y5, rfl⟩⟩
    go_wp2_with fail
    with_reducible refine (size_n hs1 _).mono ?_
    rintro e w1 ⟨rfl, ⟨y6, rfl⟩⟩
    go_wp2_with fail
    with_reducible refine (size_n hs2 _).mono ?_
    rintro e w1 ⟨rfl, ⟨y7, rfl⟩⟩
    go_wp2_with fail
    with_reducible refine (toNum_n t1 _).mono ?_
    rintro e w1 ⟨rfl, ⟨y8, rfl⟩⟩
    go_wp2_with fail
    with_reducible refine (toNum_n t2 _).mono ?_
    rintro e w1 ⟨rfl, ⟨y9, rfl⟩⟩
    go_wp2_with fail
    with_reducible refine (first_c _).mono ?_
    rintro e w1 ⟨rfl, ⟨z0, rfl⟩⟩
    go_wp2_with fail
    go_ret
    exact ⟨rfl, (by repeat' (first | exact Plus.refl _ | refine Plus.alloc ?_ _ | refine Plus.plus ?_ _ | refine Plus.drew ?_ | refine Plus.drewN ?_ _))⟩
  · go_enter Try.func9, Try.ntmps9
    go_wp2_with fail
    with_reducible refine (first_c _).mono ?_
    rintro e w1 ⟨rfl, ⟨y0, rfl⟩⟩
    go_wp2_with fail
    with_reducible refine (change_n h1 _).mono ?_
    rintro e w1 ⟨rfl, ⟨y1, rfl⟩⟩
    go_wp2_with fail
    with_reducible refine (change_n h2 _).mono ?_
    rintro e w1 ⟨rfl, ⟨y2, rfl⟩⟩
    go_wp2_with fail
    with_reducible refine (bytes_n hx1 _).mono ?_
    rintro e w1 ⟨A, c, rfl, hA, ⟨y3, rfl⟩⟩
    have HA := Lib.hid hA
    clear hA
    go_wp2_with fail
    with_reducible refine (bytes_n hx2 _).mono ?_
    rintro e w1 ⟨B, d, rfl, hB, ⟨y4, rfl⟩⟩
    have HB := Lib.hid hB
    clear hB
    go_wp2_with fail
    with_reducible refine (refBytes_e he _ (HA.out.plus (by repeat' (first | exact Plus.refl _ | refine Plus.alloc ?_ _ | refine Plus.plus ?_ _ | refine Plus.drew ?_ | refine Plus.drewN ?_ _))) HB.out).mono ?_
    rintro e w1 ⟨rfl, ⟨y5, rfl⟩⟩
    go_wp2_with fail
    with_reducible refine (size_n hs1 _).mono ?_
    rintro e w1 ⟨rfl, ⟨y6, rfl⟩⟩
    go_wp2_with fail
    with_reducible refine (size_n hs2 _).mono ?_
    rintro e w1 ⟨rfl, ⟨y7, rfl⟩⟩
    go_wp2_with fail
    with_reducible refine (toNum_n t1 _).mono ?_
    rintro e w1 ⟨rfl, ⟨y8, rfl⟩⟩
    go_wp2_with fail
    with_reducible refine (toNum_n t2 _).mono ?_
    rintro e w1 ⟨rfl, ⟨y9, rfl⟩⟩
    go_wp2_with fail
    with_reducible refine (first_c _).mono ?_
    rintro e w1 ⟨rfl, ⟨z0, rfl⟩⟩
    go_wp2_with fail
    with_reducible refine (size_n hs1 _).mono ?_
    rintro e w1 ⟨rfl, ⟨z1, rfl⟩⟩
    go_wp2_with fail
    go_ret
    exact ⟨rfl, (by repeat' (first | exact Plus.refl _ | refine Plus.alloc ?_ _ | refine Plus.plus ?_ _ | refine Plus.drew ?_ | refine Plus.drewN ?_ _))⟩

set_option maxRecDepth 100000 in
set_option maxHeartbeats 8000000 in
theorem pairs_4 (k op sk uk : Int) (a b r s : Nat) (ok : Bool) (xs us vs : List Nat) (p q : Bool) (w : World) (hk : k = 4 ∧ sk = 7 ∧ uk = 8 ∧ s = 8) (h1 : Hid (ChN sk op a b r ok)) (h2 : Hid (ChN uk op a b r ok)) (hs1 : Hid (SzN sk s)) (hs2 : Hid (SzN uk s)) (hx1 : Hid (BsN sk a xs s)) (hx2 : Hid (BsN uk a xs s)) (he : Hid (EqN xs xs true)) (t1 : Hid (TbN uk a p us)) (t2 : Hid (TbN sk a q vs)) (f1 : Hid (FbN sk p us a)) (f2 : Hid (FbN uk q vs a)) :
    Calls Try.prog 9 #[.int .i64 k, .int .i64 op, .int .u64 (a : Int), .int .u64 (b : Int)] w fun e w' => e = .returned (.bool true) ∧ Plus w w' := by
  obtain ⟨rfl, rfl, rfl, rfl⟩ := hk
  go_enter Try.func9, Try.ntmps9
  go_wp2_with fail
  with_reducible refine (first_c _).mono ?_
  rintro e w1 ⟨rfl, ⟨y0, rfl⟩⟩
  go_wp2_with fail
  with_reducible refine (change_n h1 _).mono ?_
  rintro e w1 ⟨rfl, ⟨y1, rfl⟩⟩
  go_wp2_with fail
  with_reducible refine (change_n h2 _).mono ?_
  rintro e w1 ⟨rfl, ⟨y2, rfl⟩⟩
  go_wp2_with fail
  with_reducible refine (bytes_n hx1 _).mono ?_
  rintro e w1 ⟨A, c, rfl, hA, ⟨y3, rfl⟩⟩
  have HA := Lib.hid hA
  clear hA
  go_wp2_with fail
  with_reducible refine (bytes_n hx2 _).mono ?_
  rintro e w1 ⟨B, d, rfl, hB, ⟨y4, rfl⟩⟩
  have HB := Lib.hid hB
  clear hB
  go_wp2_with fail
  with_reducible refine (refBytes_e he _ (HA.out.plus (by repeat' (first | exact Plus.refl _ | refine Plus.alloc ?_ _ | refine Plus.plus ?_ _ | refine Plus.drew ?_ | refine Plus.drewN ?_ _))) HB.out).mono ?_
  rintro e w1 ⟨rfl, ⟨y5, rfl⟩⟩
  go_wp2_with fail
  with_reducible refine (size_n hs1 _).mono ?_
  rintro e w1 ⟨rfl, ⟨y6, rfl⟩⟩
  go_wp2_with fail
  with_reducible refine (size_n hs2 _).mono ?_
  rintro e w1 ⟨rfl, ⟨y7, rfl⟩⟩
  go_wp2_with fail
  with_reducible refine (first_c _).mono ?_
  rintro e w1 ⟨rfl, ⟨z0, rfl⟩⟩
  go_wp2_with fail
  with_reducible refine (toBig_n t1 _).mono ?_
  rintro e w1 ⟨U, e1, rfl, hU, ⟨z1, rfl⟩⟩
  have HU := Lib.hid hU
  clear hU
  go_wp2_with fail
  with_reducible refine (fromBig_n f1 _ HU).mono ?_
  rintro e w1 ⟨rfl, ⟨z2, rfl⟩⟩
  go_wp2_with fail
  with_reducible refine (toBig_n t2 _).mono ?_
  rintro e w1 ⟨V, e2, rfl, hV, ⟨z3, rfl⟩⟩
  have HV := Lib.hid hV
  clear hV
  go_wp2_with fail
  with_reducible refine (fromBig_n f2 _ HV).mono ?_
  rintro e w1 ⟨rfl, ⟨z4, rfl⟩⟩
  go_wp2_with fail
  go_ret
  exact ⟨rfl, (by repeat' (first | exact Plus.refl _ | refine Plus.alloc ?_ _ | refine Plus.plus ?_ _ | refine Plus.drew ?_ | refine Plus.drewN ?_ _))⟩

set_option maxRecDepth 100000 in
theorem pairs_o (k op : Int) (a b : Nat) (w : World) (hk : k < 1 ∨ 1 ≤ k ∧ 4 < k) : Calls Try.prog 9 #[.int .i64 k, .int .i64 op, .int .u64 (a : Int), .int .u64 (b : Int)] w fun e w' => e = .returned (.bool true) ∧ Plus w w' := by
  rcases hk with hk | ⟨h1, h2⟩
  · go_enter Try.func9, Try.ntmps9
    go_wp2_with fail
    with_reducible refine (first_c _).mono ?_
    rintro e w1 ⟨rfl, ⟨y0, rfl⟩⟩
    go_wp2_with fail
    with_reducible refine (first_c _).mono ?_
    rintro e w1 ⟨rfl, ⟨y1, rfl⟩⟩
    go_wp2_with fail
    go_ret
    exact ⟨rfl, (by repeat' (first | exact Plus.refl _ | refine Plus.alloc ?_ _ | refine Plus.plus ?_ _ | refine Plus.drew ?_ | refine Plus.drewN ?_ _))⟩
  · go_enter Try.func9, Try.ntmps9
    go_wp2_with fail
    with_reducible refine (first_c _).mono ?_
    rintro e w1 ⟨rfl, ⟨y0, rfl⟩⟩
    go_wp2_with fail
    with_reducible refine (first_c _).mono ?_
    rintro e w1 ⟨rfl, ⟨y1, rfl⟩⟩
    go_wp2_with fail
    go_ret
    exact ⟨rfl, (by repeat' (first | exact Plus.refl _ | refine Plus.alloc ?_ _ | refine Plus.plus ?_ _ | refine Plus.drew ?_ | refine Plus.drewN ?_ _))⟩

theorem ch_same {k j op : Int} (a b : Nat) (h : szK k = szK j) (ha : a < 18446744073709551616) (hb : b < 18446744073709551616) : ChN j op a b (chW k op a b) (chB k op) := by
  have e : chB j op = chB k op := by unfold chB; rw [h]
  refine ⟨?_, e, ha, hb⟩
  unfold chW
  rw [e, h]
theorem pairs_w (k op : Int) (a b : Nat) (w : World) (ha : a < 18446744073709551616) (hb : b < 18446744073709551616) : Calls Try.prog 9 #[.int .i64 k, .int .i64 op, .int .u64 (a : Int), .int .u64 (b : Int)] w fun e w' => e = .returned (.bool true) ∧ Plus w w' := by
  by_cases hk : k < 1 ∨ 1 ≤ k ∧ 4 < k
  · exact pairs_o k op a b w hk
  · have key : ∀ (sk uk : Int) (s : Nat) (M : Int), szK sk = s → szK uk = s → ((k = 1 ∧ sk = 1 ∧ uk = 2 ∧ s = 1 ∧ M = 256) ∨ (k = 2 ∧ sk = 3 ∧ uk = 4 ∧ s = 2 ∧ M = 65536) ∨ (k = 3 ∧ sk = 5 ∧ uk = 6 ∧ s = 4 ∧ M = 4294967296)) → (toN uk a - toN sk a = 0 ∨ toN uk a - toN sk a = M) → Calls Try.prog 9 #[.int .i64 k, .int .i64 op, .int .u64 (a : Int), .int .u64 (b : Int)] w fun e w' => e = .returned (.bool true) ∧ Plus w w' := fun sk uk s M e1 e2 e3 e4 =>
      pairs_s k op sk uk a b (chW sk op a b) s (chB sk op) (bs s a) (toN uk a) (toN sk a) M w e3 (Lib.hid ⟨rfl, rfl, ha, hb⟩) (Lib.hid (ch_same a b (e1.trans e2.symm) ha hb)) (Lib.hid e1) (Lib.hid e2) (Lib.hid ⟨by rw [e1], bs_len _ _, ha⟩) (Lib.hid ⟨by rw [e2], bs_len _ _, ha⟩) (Lib.hid (decide_eq_true rfl)) (Lib.hid rfl) (Lib.hid rfl) e4
    have h4 : k = 1 ∨ k = 2 ∨ k = 3 ∨ k = 4 := by omega
    rcases h4 with rfl | rfl | rfl | rfl
    · refine key 1 2 1 256 (by decide) (by decide) (by simp) ?_
      rw [toN_1, toN_2]
      omega
    · refine key 3 4 2 65536 (by decide) (by decide) (by simp) ?_
      rw [toN_3, toN_4]
      omega
    · refine key 5 6 4 4294967296 (by decide) (by decide) (by simp) ?_
      rw [toN_5, toN_6]
      omega
    · have s7 : szK 7 = 8 := by decide
      have s8 : szK 8 = 8 := by decide
      exact pairs_4 4 op 7 8 a b (chW 7 op a b) 8 (chB 7 op) (bs 8 a) (Bg.dig (tbN 8 a).natAbs) (Bg.dig (tbN 7 a).natAbs) (decide (tbN 8 a < 0)) (decide (tbN 7 a < 0)) w ⟨rfl, rfl, rfl, rfl⟩ (Lib.hid ⟨rfl, rfl, ha, hb⟩) (Lib.hid (ch_same a b (s7.trans s8.symm) ha hb)) (Lib.hid s7) (Lib.hid s8) (Lib.hid ⟨by rw [s7], bs_len _ _, ha⟩) (Lib.hid ⟨by rw [s8], bs_len _ _, ha⟩) (Lib.hid (decide_eq_true rfl)) (Lib.hid ⟨rfl, rfl, ha⟩) (Lib.hid ⟨rfl, rfl, ha⟩) (Lib.hid (fb_tb (by decide) (by decide) ha)) (Lib.hid (fb_tb (by decide) (by decide) ha))
end Go.Proofs.Ytjojkogmbgppcaa
