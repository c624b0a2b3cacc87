/- oper: ofNums. oper: ofBigs. -/
import Derived.Test.YtgljfgkkolfnbaaGreatDoorQD
import Derived.Test.YtgljfgkkolfnbaaGreatDoorOA
import Derived.Test.YtgljfgkkolfnbaaGreatDoorGRz
import Derived.Test.YtgljfgkkolfnbaaGreatDoorO3z
namespace Go.Proofs.YtgljfgkkolfnbaaGreatDoor
open Go.RowKit

set_option maxRecDepth 100000 in
set_option maxHeartbeats 4000000 in
theorem nums_add_y {a b a2 b2 x y : Int} (w : World) (h : Hid (addR a b a2 b2 = ⟨x, y, true⟩)) : Calls Tryz.prog 49 #[.string ⟨#[43]⟩, .agg #[.int .i64 a, .int .i64 b], .agg #[.int .i64 a2, .int .i64 b2]] w (fun e w' => e = .returned (.tuple #[Value.agg #[.int .i64 3, .int .i64 x, .int .i64 y, .bool false, .slice none 0 0, .slice none 0 0, .int .i64 0], .int .i64 0]) ∧ Plus w w') := by
  go_enter Tryz.func49, Tryz.ntmps49
  go_wp2_with (first | (go_at_call 101; (with_reducible refine (add_v h _).mono ?_); rintro e w1 ⟨rfl, ⟨x1, rfl⟩⟩) | (go_at_call 100; (with_reducible refine (inset_y _).mono ?_); rintro e w1 ⟨rfl, ⟨x2, rfl⟩⟩))
  go_returns
  exact ⟨rfl, (by repeat' (first | exact Plus.refl _ | refine Plus.alloc ?_ _ | refine Plus.plus ?_ _ | refine Plus.drew ?_ | refine Plus.drewN ?_ _))⟩
set_option maxRecDepth 100000 in
set_option maxHeartbeats 4000000 in
theorem nums_add_n {a b a2 b2 x y : Int} (w : World) (h : Hid (addR a b a2 b2 = ⟨x, y, false⟩)) : Calls Tryz.prog 49 #[.string ⟨#[43]⟩, .agg #[.int .i64 a, .int .i64 b], .agg #[.int .i64 a2, .int .i64 b2]] w (fun e w' => e = .returned (.tuple #[Value.agg #[.int .i64 0, .int .i64 0, .int .i64 0, .bool false, .slice none 0 0, .slice none 0 0, .int .i64 0], .int .i64 3]) ∧ Plus w w') := by
  go_enter Tryz.func49, Tryz.ntmps49
  go_wp2_with (first | (go_at_call 101; (with_reducible refine (add_v h _).mono ?_); rintro e w1 ⟨rfl, ⟨x1, rfl⟩⟩) | (go_at_call 100; (with_reducible refine (inset_n _).mono ?_); rintro e w1 ⟨rfl, ⟨x2, rfl⟩⟩))
  go_returns
  exact ⟨rfl, (by repeat' (first | exact Plus.refl _ | refine Plus.alloc ?_ _ | refine Plus.plus ?_ _ | refine Plus.drew ?_ | refine Plus.drewN ?_ _))⟩
set_option maxRecDepth 100000 in
set_option maxHeartbeats 4000000 in
theorem nums_sub_y {a b a2 b2 x y : Int} (w : World) (h : Hid (subR a b a2 b2 = ⟨x, y, true⟩)) : Calls Tryz.prog 49 #[.string ⟨#[45]⟩, .agg #[.int .i64 a, .int .i64 b], .agg #[.int .i64 a2, .int .i64 b2]] w (fun e w' => e = .returned (.tuple #[Value.agg #[.int .i64 3, .int .i64 x, .int .i64 y, .bool false, .slice none 0 0, .slice none 0 0, .int .i64 0], .int .i64 0]) ∧ Plus w w') := by
  go_enter Tryz.func49, Tryz.ntmps49
  go_wp2_with (first | (go_at_call 102; (with_reducible refine (sub_v h _).mono ?_); rintro e w1 ⟨rfl, ⟨x1, rfl⟩⟩) | (go_at_call 100; (with_reducible refine (inset_y _).mono ?_); rintro e w1 ⟨rfl, ⟨x2, rfl⟩⟩))
  go_returns
  exact ⟨rfl, (by repeat' (first | exact Plus.refl _ | refine Plus.alloc ?_ _ | refine Plus.plus ?_ _ | refine Plus.drew ?_ | refine Plus.drewN ?_ _))⟩
set_option maxRecDepth 100000 in
set_option maxHeartbeats 4000000 in
theorem nums_sub_n {a b a2 b2 x y : Int} (w : World) (h : Hid (subR a b a2 b2 = ⟨x, y, false⟩)) : Calls Tryz.prog 49 #[.string ⟨#[45]⟩, .agg #[.int .i64 a, .int .i64 b], .agg #[.int .i64 a2, .int .i64 b2]] w (fun e w' => e = .returned (.tuple #[Value.agg #[.int .i64 0, .int .i64 0, .int .i64 0, .bool false, .slice none 0 0, .slice none 0 0, .int .i64 0], .int .i64 3]) ∧ Plus w w') := by
  go_enter Tryz.func49, Tryz.ntmps49
  go_wp2_with (first | (go_at_call 102; (with_reducible refine (sub_v h _).mono ?_); rintro e w1 ⟨rfl, ⟨x1, rfl⟩⟩) | (go_at_call 100; (with_reducible refine (inset_n _).mono ?_); rintro e w1 ⟨rfl, ⟨x2, rfl⟩⟩))
  go_returns
  exact ⟨rfl, (by repeat' (first | exact Plus.refl _ | refine Plus.alloc ?_ _ | refine Plus.plus ?_ _ | refine Plus.drew ?_ | refine Plus.drewN ?_ _))⟩
set_option maxRecDepth 100000 in
set_option maxHeartbeats 4000000 in
theorem nums_mul_y {a b a2 b2 x y : Int} (w : World) (h : Hid (mulR a b a2 b2 = ⟨x, y, true⟩)) : Calls Tryz.prog 49 #[.string ⟨#[42]⟩, .agg #[.int .i64 a, .int .i64 b], .agg #[.int .i64 a2, .int .i64 b2]] w (fun e w' => e = .returned (.tuple #[Value.agg #[.int .i64 3, .int .i64 x, .int .i64 y, .bool false, .slice none 0 0, .slice none 0 0, .int .i64 0], .int .i64 0]) ∧ Plus w w') := by
  go_enter Tryz.func49, Tryz.ntmps49
  go_wp2_with (first | (go_at_call 103; (with_reducible refine (mul_v h _).mono ?_); rintro e w1 ⟨rfl, ⟨x1, rfl⟩⟩) | (go_at_call 100; (with_reducible refine (inset_y _).mono ?_); rintro e w1 ⟨rfl, ⟨x2, rfl⟩⟩))
  go_returns
  exact ⟨rfl, (by repeat' (first | exact Plus.refl _ | refine Plus.alloc ?_ _ | refine Plus.plus ?_ _ | refine Plus.drew ?_ | refine Plus.drewN ?_ _))⟩
set_option maxRecDepth 100000 in
set_option maxHeartbeats 4000000 in
theorem nums_mul_n {a b a2 b2 x y : Int} (w : World) (h : Hid (mulR a b a2 b2 = ⟨x, y, false⟩)) : Calls Tryz.prog 49 #[.string ⟨#[42]⟩, .agg #[.int .i64 a, .int .i64 b], .agg #[.int .i64 a2, .int .i64 b2]] w (fun e w' => e = .returned (.tuple #[Value.agg #[.int .i64 0, .int .i64 0, .int .i64 0, .bool false, .slice none 0 0, .slice none 0 0, .int .i64 0], .int .i64 3]) ∧ Plus w w') := by
  go_enter Tryz.func49, Tryz.ntmps49
  go_wp2_with (first | (go_at_call 103; (with_reducible refine (mul_v h _).mono ?_); rintro e w1 ⟨rfl, ⟨x1, rfl⟩⟩) | (go_at_call 100; (with_reducible refine (inset_n _).mono ?_); rintro e w1 ⟨rfl, ⟨x2, rfl⟩⟩))
  go_returns
  exact ⟨rfl, (by repeat' (first | exact Plus.refl _ | refine Plus.alloc ?_ _ | refine Plus.plus ?_ _ | refine Plus.drew ?_ | refine Plus.drewN ?_ _))⟩
set_option maxRecDepth 100000 in
set_option maxHeartbeats 4000000 in
theorem nums_div_y {a b a2 b2 x y : Int} (w : World) (h : Hid (divR a b a2 b2 = ⟨x, y, true⟩)) : Calls Tryz.prog 49 #[.string ⟨#[47]⟩, .agg #[.int .i64 a, .int .i64 b], .agg #[.int .i64 a2, .int .i64 b2]] w (fun e w' => e = .returned (.tuple #[Value.agg #[.int .i64 3, .int .i64 x, .int .i64 y, .bool false, .slice none 0 0, .slice none 0 0, .int .i64 0], .int .i64 0]) ∧ Plus w w') := by
  go_enter Tryz.func49, Tryz.ntmps49
  go_wp2_with (first | (go_at_call 104; (with_reducible refine (div_v h _).mono ?_); rintro e w1 ⟨rfl, ⟨x1, rfl⟩⟩) | (go_at_call 100; (with_reducible refine (inset_y _).mono ?_); rintro e w1 ⟨rfl, ⟨x2, rfl⟩⟩))
  go_returns
  exact ⟨rfl, (by repeat' (first | exact Plus.refl _ | refine Plus.alloc ?_ _ | refine Plus.plus ?_ _ | refine Plus.drew ?_ | refine Plus.drewN ?_ _))⟩
set_option maxRecDepth 100000 in
set_option maxHeartbeats 4000000 in
theorem nums_div_n {a b a2 b2 x y : Int} (w : World) (h : Hid (divR a b a2 b2 = ⟨x, y, false⟩)) : Calls Tryz.prog 49 #[.string ⟨#[47]⟩, .agg #[.int .i64 a, .int .i64 b], .agg #[.int .i64 a2, .int .i64 b2]] w (fun e w' => e = .returned (.tuple #[Value.agg #[.int .i64 0, .int .i64 0, .int .i64 0, .bool false, .slice none 0 0, .slice none 0 0, .int .i64 0], .int .i64 3]) ∧ Plus w w') := by
  go_enter Tryz.func49, Tryz.ntmps49
  go_wp2_with (first | (go_at_call 104; (with_reducible refine (div_v h _).mono ?_); rintro e w1 ⟨rfl, ⟨x1, rfl⟩⟩) | (go_at_call 100; (with_reducible refine (inset_n _).mono ?_); rintro e w1 ⟨rfl, ⟨x2, rfl⟩⟩))
  go_returns
  exact ⟨rfl, (by repeat' (first | exact Plus.refl _ | refine Plus.alloc ?_ _ | refine Plus.plus ?_ _ | refine Plus.drew ?_ | refine Plus.drewN ?_ _))⟩
set_option maxRecDepth 100000 in
set_option maxHeartbeats 4000000 in
theorem nums_rem {a b a2 b2 x y : Int} (w : World) (h : Hid (remR a b a2 b2 = ⟨x, y⟩)) : Calls Tryz.prog 49 #[.string ⟨#[37]⟩, .agg #[.int .i64 a, .int .i64 b], .agg #[.int .i64 a2, .int .i64 b2]] w (fun e w' => e = .returned (.tuple #[Value.agg #[.int .i64 3, .int .i64 x, .int .i64 y, .bool false, .slice none 0 0, .slice none 0 0, .int .i64 0], .int .i64 0]) ∧ Plus w w') := by
  go_enter Tryz.func49, Tryz.ntmps49
  go_wp2_with (first | (go_at_call 105; (with_reducible refine (rem_v h _).mono ?_); rintro e w1 ⟨rfl, ⟨x1, rfl⟩⟩) | (go_at_call 28; (with_reducible refine (cnum_n _).mono ?_); rintro e w1 ⟨rfl, ⟨x2, rfl⟩⟩))
  go_returns
  exact ⟨rfl, (by repeat' (first | exact Plus.refl _ | refine Plus.alloc ?_ _ | refine Plus.plus ?_ _ | refine Plus.drew ?_ | refine Plus.drewN ?_ _))⟩
end Go.Proofs.YtgljfgkkolfnbaaGreatDoor

namespace Go.Proofs.YtgljfgkkolfnbaaGreatDoor
open Go.RowKit

theorem nm_may {r : Int} {pb : Bool} {us : List Nat} (h : Bg.Nm r pb us) : Bg.mayL pb us = true ∧ Bg.bigI pb us = r := by
  obtain ⟨rfl, rfl, h3⟩ := h
  have := Bg.may_dig h3
  exact ⟨this, Bg.Nm.val ⟨rfl, rfl, h3⟩⟩
theorem badd_v {ga gb : Bool} {Aa Ab : Option Addr} {xsa xsb : List Nat} {na ca nb cb : Nat} {za zb r : Int} {pb : Bool} {us : List Nat} {ok : Bool} {w : World} (h1 : Hid (BgV ga Aa xsa na ca za w)) (h2 : Hid (BgV gb Ab xsb nb cb zb w)) (hr : Hid (Bg.AddN za zb r ok pb us)) (w0 : World) (hp : Plus w w0) : Calls Tryz.prog 92 #[.agg #[.bool ga, .slice Aa na ca], .agg #[.bool gb, .slice Ab nb cb]] w0 fun e w' => ∃ (A1 : Option Addr) (c1 : Nat), e = .returned (.tuple #[.agg #[.bool pb, .slice A1 us.length c1], .bool ok]) ∧ Bg.Arg w' A1 us us.length c1 ∧ Plus w0 w' :=
  Bg.add_n (Lib.hid h1.out.2.1) (Lib.hid h2.out.2.1) hr w0 (h1.out.2.2.plus hp) (h2.out.2.2.plus hp)
theorem BgV.mk3 {r : Int} {pb : Bool} {us : List Nat} (h : Bg.Nm r pb us) {w : World} {A : Option Addr} {c : Nat} (ha : Bg.Arg w A us us.length c) : BgV pb A us us.length c r w := ⟨(nm_may h).1, (nm_may h).2, ha⟩
set_option maxRecDepth 100000 in
set_option maxHeartbeats 4000000 in
theorem bigs_add_y {ga gb : Bool} {Aa Ab : Option Addr} {xsa xsb : List Nat} {na ca nb cb : Nat} {za zb r : Int} {pb : Bool} {us : List Nat} (w : World) (h1 : Hid (BgV ga Aa xsa na ca za w)) (h2 : Hid (BgV gb Ab xsb nb cb zb w)) (hr : Hid (Bg.AddN za zb r true pb us)) : Calls Tryz.prog 47 #[.string ⟨#[43]⟩, .agg #[.bool ga, .slice Aa na ca], .agg #[.bool gb, .slice Ab nb cb]] w (RetB r w) := by
  go_enter Tryz.func47, Tryz.ntmps47
  have hm : Bg.Nm r pb us := hr.out.1
  go_wp2_with (first | (go_at_call 92; (with_reducible refine (badd_v h1 h2 hr _ (by repeat' (first | exact Plus.refl _ | refine Plus.alloc ?_ _ | refine Plus.plus ?_ _ | refine Plus.drew ?_ | refine Plus.drewN ?_ _))).mono ?_); rintro e w1 ⟨A3, c3, rfl, hC, ⟨x1, rfl⟩⟩; have HC := Lib.hid hC; clear hC) | (go_at_call 91; (with_reducible refine (short_y _).mono ?_); rintro e w1 ⟨rfl, ⟨x2, rfl⟩⟩))
  go_returns
  exact ⟨pb, A3, us, us.length, c3, rfl, (BgV.mk3 hm HC.out).offs (by repeat (first | (refine Offp.of ?_; (repeat' (first | exact Offs.refl _ | refine Offs.plus ?_ _ | refine Offs.alloc ?_ _ | exact Offs.allocN (Offs.refl _) (nuV _ _ _ _ _ _ _ _ _ _ _ _) | refine Offs.allocN ?_ (nuV _ _ _ _ _ _ _ _ _ _ _ _) | refine Offs.allocN ?_ (nuB _ _ _ _ _) | refine Offs.allocN ?_ (nuN _ _ _) | refine Offs.drew ?_ | refine Offs.drewL ?_ | refine Offs.drewR ?_)); done) | refine Offp.plusR ?_ _ | refine Offp.allocR ?_ _ | refine Offp.drewR ?_)), (by repeat' (first | exact Plus.refl _ | refine Plus.alloc ?_ _ | refine Plus.plus ?_ _ | refine Plus.drew ?_ | refine Plus.drewN ?_ _))⟩
set_option maxRecDepth 100000 in
set_option maxHeartbeats 4000000 in
theorem bigs_add_n {ga gb : Bool} {Aa Ab : Option Addr} {xsa xsb : List Nat} {na ca nb cb : Nat} {za zb r : Int} {pb : Bool} {us : List Nat} (w : World) (h1 : Hid (BgV ga Aa xsa na ca za w)) (h2 : Hid (BgV gb Ab xsb nb cb zb w)) (hr : Hid (Bg.AddN za zb r false pb us)) : Calls Tryz.prog 47 #[.string ⟨#[43]⟩, .agg #[.bool ga, .slice Aa na ca], .agg #[.bool gb, .slice Ab nb cb]] w (fun e w' => e = .returned (.tuple #[Value.agg #[.int .i64 0, .int .i64 0, .int .i64 0, .bool false, .slice none 0 0, .slice none 0 0, .int .i64 0], .int .i64 3]) ∧ Plus w w') := by
  go_enter Tryz.func47, Tryz.ntmps47
  go_wp2_with (first | (go_at_call 92; (with_reducible refine (badd_v h1 h2 hr _ (by repeat' (first | exact Plus.refl _ | refine Plus.alloc ?_ _ | refine Plus.plus ?_ _ | refine Plus.drew ?_ | refine Plus.drewN ?_ _))).mono ?_); rintro e w1 ⟨A3, c3, rfl, hC, ⟨x1, rfl⟩⟩; have HC := Lib.hid hC; clear hC) | (go_at_call 91; (with_reducible refine (short_n _).mono ?_); rintro e w1 ⟨rfl, ⟨x2, rfl⟩⟩))
  go_returns
  exact ⟨rfl, (by repeat' (first | exact Plus.refl _ | refine Plus.alloc ?_ _ | refine Plus.plus ?_ _ | refine Plus.drew ?_ | refine Plus.drewN ?_ _))⟩
theorem bsub_v {ga gb : Bool} {Aa Ab : Option Addr} {xsa xsb : List Nat} {na ca nb cb : Nat} {za zb r : Int} {pb : Bool} {us : List Nat} {ok : Bool} {w : World} (h1 : Hid (BgV ga Aa xsa na ca za w)) (h2 : Hid (BgV gb Ab xsb nb cb zb w)) (hr : Hid (Bg.SubN za zb r ok pb us)) (w0 : World) (hp : Plus w w0) : Calls Tryz.prog 93 #[.agg #[.bool ga, .slice Aa na ca], .agg #[.bool gb, .slice Ab nb cb]] w0 fun e w' => ∃ (A1 : Option Addr) (c1 : Nat), e = .returned (.tuple #[.agg #[.bool pb, .slice A1 us.length c1], .bool ok]) ∧ Bg.Arg w' A1 us us.length c1 ∧ Plus w0 w' :=
  Bg.sub_n (Lib.hid h1.out.2.1) (Lib.hid h2.out.2.1) hr w0 (h1.out.2.2.plus hp) (h2.out.2.2.plus hp)
set_option maxRecDepth 100000 in
set_option maxHeartbeats 4000000 in
theorem bigs_sub_y {ga gb : Bool} {Aa Ab : Option Addr} {xsa xsb : List Nat} {na ca nb cb : Nat} {za zb r : Int} {pb : Bool} {us : List Nat} (w : World) (h1 : Hid (BgV ga Aa xsa na ca za w)) (h2 : Hid (BgV gb Ab xsb nb cb zb w)) (hr : Hid (Bg.SubN za zb r true pb us)) : Calls Tryz.prog 47 #[.string ⟨#[45]⟩, .agg #[.bool ga, .slice Aa na ca], .agg #[.bool gb, .slice Ab nb cb]] w (RetB r w) := by
  go_enter Tryz.func47, Tryz.ntmps47
  have hm : Bg.Nm r pb us := hr.out.1
  go_wp2_with (first | (go_at_call 93; (with_reducible refine (bsub_v h1 h2 hr _ (by repeat' (first | exact Plus.refl _ | refine Plus.alloc ?_ _ | refine Plus.plus ?_ _ | refine Plus.drew ?_ | refine Plus.drewN ?_ _))).mono ?_); rintro e w1 ⟨A3, c3, rfl, hC, ⟨x1, rfl⟩⟩; have HC := Lib.hid hC; clear hC) | (go_at_call 91; (with_reducible refine (short_y _).mono ?_); rintro e w1 ⟨rfl, ⟨x2, rfl⟩⟩))
  go_returns
  exact ⟨pb, A3, us, us.length, c3, rfl, (BgV.mk3 hm HC.out).offs (by repeat (first | (refine Offp.of ?_; (repeat' (first | exact Offs.refl _ | refine Offs.plus ?_ _ | refine Offs.alloc ?_ _ | exact Offs.allocN (Offs.refl _) (nuV _ _ _ _ _ _ _ _ _ _ _ _) | refine Offs.allocN ?_ (nuV _ _ _ _ _ _ _ _ _ _ _ _) | refine Offs.allocN ?_ (nuB _ _ _ _ _) | refine Offs.allocN ?_ (nuN _ _ _) | refine Offs.drew ?_ | refine Offs.drewL ?_ | refine Offs.drewR ?_)); done) | refine Offp.plusR ?_ _ | refine Offp.allocR ?_ _ | refine Offp.drewR ?_)), (by repeat' (first | exact Plus.refl _ | refine Plus.alloc ?_ _ | refine Plus.plus ?_ _ | refine Plus.drew ?_ | refine Plus.drewN ?_ _))⟩
set_option maxRecDepth 100000 in
set_option maxHeartbeats 4000000 in
theorem bigs_sub_n {ga gb : Bool} {Aa Ab : Option Addr} {xsa xsb : List Nat} {na ca nb cb : Nat} {za zb r : Int} {pb : Bool} {us : List Nat} (w : World) (h1 : Hid (BgV ga Aa xsa na ca za w)) (h2 : Hid (BgV gb Ab xsb nb cb zb w)) (hr : Hid (Bg.SubN za zb r false pb us)) : Calls Tryz.prog 47 #[.string ⟨#[45]⟩, .agg #[.bool ga, .slice Aa na ca], .agg #[.bool gb, .slice Ab nb cb]] w (fun e w' => e = .returned (.tuple #[Value.agg #[.int .i64 0, .int .i64 0, .int .i64 0, .bool false, .slice none 0 0, .slice none 0 0, .int .i64 0], .int .i64 3]) ∧ Plus w w') := by
  go_enter Tryz.func47, Tryz.ntmps47
  go_wp2_with (first | (go_at_call 93; (with_reducible refine (bsub_v h1 h2 hr _ (by repeat' (first | exact Plus.refl _ | refine Plus.alloc ?_ _ | refine Plus.plus ?_ _ | refine Plus.drew ?_ | refine Plus.drewN ?_ _))).mono ?_); rintro e w1 ⟨A3, c3, rfl, hC, ⟨x1, rfl⟩⟩; have HC := Lib.hid hC; clear hC) | (go_at_call 91; (with_reducible refine (short_n _).mono ?_); rintro e w1 ⟨rfl, ⟨x2, rfl⟩⟩))
  go_returns
  exact ⟨rfl, (by repeat' (first | exact Plus.refl _ | refine Plus.alloc ?_ _ | refine Plus.plus ?_ _ | refine Plus.drew ?_ | refine Plus.drewN ?_ _))⟩
theorem bmul_v {ga gb : Bool} {Aa Ab : Option Addr} {xsa xsb : List Nat} {na ca nb cb : Nat} {za zb r : Int} {pb : Bool} {us : List Nat} {ok : Bool} {w : World} (h1 : Hid (BgV ga Aa xsa na ca za w)) (h2 : Hid (BgV gb Ab xsb nb cb zb w)) (hr : Hid (Bg.MulN za zb r ok pb us)) (w0 : World) (hp : Plus w w0) : Calls Tryz.prog 94 #[.agg #[.bool ga, .slice Aa na ca], .agg #[.bool gb, .slice Ab nb cb]] w0 fun e w' => ∃ (A1 : Option Addr) (c1 : Nat), e = .returned (.tuple #[.agg #[.bool pb, .slice A1 us.length c1], .bool ok]) ∧ Bg.Arg w' A1 us us.length c1 ∧ Plus w0 w' :=
  Bg.mul_n (Lib.hid h1.out.2.1) (Lib.hid h2.out.2.1) hr w0 (h1.out.2.2.plus hp) (h2.out.2.2.plus hp)
set_option maxRecDepth 100000 in
set_option maxHeartbeats 4000000 in
theorem bigs_mul_y {ga gb : Bool} {Aa Ab : Option Addr} {xsa xsb : List Nat} {na ca nb cb : Nat} {za zb r : Int} {pb : Bool} {us : List Nat} (w : World) (h1 : Hid (BgV ga Aa xsa na ca za w)) (h2 : Hid (BgV gb Ab xsb nb cb zb w)) (hr : Hid (Bg.MulN za zb r true pb us)) : Calls Tryz.prog 47 #[.string ⟨#[42]⟩, .agg #[.bool ga, .slice Aa na ca], .agg #[.bool gb, .slice Ab nb cb]] w (RetB r w) := by
  go_enter Tryz.func47, Tryz.ntmps47
  have hm : Bg.Nm r pb us := hr.out.1
  go_wp2_with (first | (go_at_call 94; (with_reducible refine (bmul_v h1 h2 hr _ (by repeat' (first | exact Plus.refl _ | refine Plus.alloc ?_ _ | refine Plus.plus ?_ _ | refine Plus.drew ?_ | refine Plus.drewN ?_ _))).mono ?_); rintro e w1 ⟨A3, c3, rfl, hC, ⟨x1, rfl⟩⟩; have HC := Lib.hid hC; clear hC) | (go_at_call 91; (with_reducible refine (short_y _).mono ?_); rintro e w1 ⟨rfl, ⟨x2, rfl⟩⟩))
  go_returns
  exact ⟨pb, A3, us, us.length, c3, rfl, (BgV.mk3 hm HC.out).offs (by repeat (first | (refine Offp.of ?_; (repeat' (first | exact Offs.refl _ | refine Offs.plus ?_ _ | refine Offs.alloc ?_ _ | exact Offs.allocN (Offs.refl _) (nuV _ _ _ _ _ _ _ _ _ _ _ _) | refine Offs.allocN ?_ (nuV _ _ _ _ _ _ _ _ _ _ _ _) | refine Offs.allocN ?_ (nuB _ _ _ _ _) | refine Offs.allocN ?_ (nuN _ _ _) | refine Offs.drew ?_ | refine Offs.drewL ?_ | refine Offs.drewR ?_)); done) | refine Offp.plusR ?_ _ | refine Offp.allocR ?_ _ | refine Offp.drewR ?_)), (by repeat' (first | exact Plus.refl _ | refine Plus.alloc ?_ _ | refine Plus.plus ?_ _ | refine Plus.drew ?_ | refine Plus.drewN ?_ _))⟩
set_option maxRecDepth 100000 in
set_option maxHeartbeats 4000000 in
theorem bigs_mul_n {ga gb : Bool} {Aa Ab : Option Addr} {xsa xsb : List Nat} {na ca nb cb : Nat} {za zb r : Int} {pb : Bool} {us : List Nat} (w : World) (h1 : Hid (BgV ga Aa xsa na ca za w)) (h2 : Hid (BgV gb Ab xsb nb cb zb w)) (hr : Hid (Bg.MulN za zb r false pb us)) : Calls Tryz.prog 47 #[.string ⟨#[42]⟩, .agg #[.bool ga, .slice Aa na ca], .agg #[.bool gb, .slice Ab nb cb]] w (fun e w' => e = .returned (.tuple #[Value.agg #[.int .i64 0, .int .i64 0, .int .i64 0, .bool false, .slice none 0 0, .slice none 0 0, .int .i64 0], .int .i64 3]) ∧ Plus w w') := by
  go_enter Tryz.func47, Tryz.ntmps47
  go_wp2_with (first | (go_at_call 94; (with_reducible refine (bmul_v h1 h2 hr _ (by repeat' (first | exact Plus.refl _ | refine Plus.alloc ?_ _ | refine Plus.plus ?_ _ | refine Plus.drew ?_ | refine Plus.drewN ?_ _))).mono ?_); rintro e w1 ⟨A3, c3, rfl, hC, ⟨x1, rfl⟩⟩; have HC := Lib.hid hC; clear hC) | (go_at_call 91; (with_reducible refine (short_n _).mono ?_); rintro e w1 ⟨rfl, ⟨x2, rfl⟩⟩))
  go_returns
  exact ⟨rfl, (by repeat' (first | exact Plus.refl _ | refine Plus.alloc ?_ _ | refine Plus.plus ?_ _ | refine Plus.drew ?_ | refine Plus.drewN ?_ _))⟩
theorem bdiv_v {ga gb : Bool} {Aa Ab : Option Addr} {xsa xsb : List Nat} {na ca nb cb : Nat} {za zb r : Int} {pb : Bool} {us : List Nat} {er : Int} {w : World} (h1 : Hid (BgV ga Aa xsa na ca za w)) (h2 : Hid (BgV gb Ab xsb nb cb zb w)) (hr : Hid (Bg.DivN za zb r er pb us)) (w0 : World) (hp : Plus w w0) : Calls Tryz.prog 96 #[.agg #[.bool ga, .slice Aa na ca], .agg #[.bool gb, .slice Ab nb cb]] w0 fun e w' => ∃ (A1 : Option Addr) (c1 : Nat), e = .returned (.tuple #[.agg #[.bool pb, .slice A1 us.length c1], .int .i64 er]) ∧ Bg.Arg w' A1 us us.length c1 ∧ Plus w0 w' :=
  Bg.div_n (Lib.hid h1.out.2.1) (Lib.hid h2.out.2.1) hr w0 (h1.out.2.2.plus hp) (h2.out.2.2.plus hp)
set_option maxRecDepth 100000 in
set_option maxHeartbeats 4000000 in
theorem bigs_div_y {ga gb : Bool} {Aa Ab : Option Addr} {xsa xsb : List Nat} {na ca nb cb : Nat} {za zb r : Int} {pb : Bool} {us : List Nat} (w : World) (h1 : Hid (BgV ga Aa xsa na ca za w)) (h2 : Hid (BgV gb Ab xsb nb cb zb w)) (hr : Hid (Bg.DivN za zb r 0 pb us)) : Calls Tryz.prog 47 #[.string ⟨#[47]⟩, .agg #[.bool ga, .slice Aa na ca], .agg #[.bool gb, .slice Ab nb cb]] w (RetB r w) := by
  go_enter Tryz.func47, Tryz.ntmps47
  have hm : Bg.Nm r pb us := hr.out.1
  go_wp2_with (first | (go_at_call 96; (with_reducible refine (bdiv_v h1 h2 hr _ (by repeat' (first | exact Plus.refl _ | refine Plus.alloc ?_ _ | refine Plus.plus ?_ _ | refine Plus.drew ?_ | refine Plus.drewN ?_ _))).mono ?_); rintro e w1 ⟨A3, c3, rfl, hC, ⟨x1, rfl⟩⟩; have HC := Lib.hid hC; clear hC) | (go_at_call 95; (with_reducible refine (divided_y _).mono ?_); rintro e w1 ⟨rfl, ⟨x2, rfl⟩⟩))
  go_returns
  exact ⟨pb, A3, us, us.length, c3, rfl, (BgV.mk3 hm HC.out).offs (by repeat (first | (refine Offp.of ?_; (repeat' (first | exact Offs.refl _ | refine Offs.plus ?_ _ | refine Offs.alloc ?_ _ | exact Offs.allocN (Offs.refl _) (nuV _ _ _ _ _ _ _ _ _ _ _ _) | refine Offs.allocN ?_ (nuV _ _ _ _ _ _ _ _ _ _ _ _) | refine Offs.allocN ?_ (nuB _ _ _ _ _) | refine Offs.allocN ?_ (nuN _ _ _) | refine Offs.drew ?_ | refine Offs.drewL ?_ | refine Offs.drewR ?_)); done) | refine Offp.plusR ?_ _ | refine Offp.allocR ?_ _ | refine Offp.drewR ?_)), (by repeat' (first | exact Plus.refl _ | refine Plus.alloc ?_ _ | refine Plus.plus ?_ _ | refine Plus.drew ?_ | refine Plus.drewN ?_ _))⟩
set_option maxRecDepth 100000 in
set_option maxHeartbeats 4000000 in
theorem bigs_div_n {ga gb : Bool} {Aa Ab : Option Addr} {xsa xsb : List Nat} {na ca nb cb : Nat} {za zb r : Int} {pb : Bool} {us : List Nat} (w : World) (h1 : Hid (BgV ga Aa xsa na ca za w)) (h2 : Hid (BgV gb Ab xsb nb cb zb w)) (hr : Hid (Bg.DivN za zb r 4 pb us)) : Calls Tryz.prog 47 #[.string ⟨#[47]⟩, .agg #[.bool ga, .slice Aa na ca], .agg #[.bool gb, .slice Ab nb cb]] w (fun e w' => e = .returned (.tuple #[Value.agg #[.int .i64 0, .int .i64 0, .int .i64 0, .bool false, .slice none 0 0, .slice none 0 0, .int .i64 0], .int .i64 2]) ∧ Plus w w') := by
  go_enter Tryz.func47, Tryz.ntmps47
  go_wp2_with (first | (go_at_call 96; (with_reducible refine (bdiv_v h1 h2 hr _ (by repeat' (first | exact Plus.refl _ | refine Plus.alloc ?_ _ | refine Plus.plus ?_ _ | refine Plus.drew ?_ | refine Plus.drewN ?_ _))).mono ?_); rintro e w1 ⟨A3, c3, rfl, hC, ⟨x1, rfl⟩⟩; have HC := Lib.hid hC; clear hC) | (go_at_call 95; (with_reducible refine (divided_n _).mono ?_); rintro e w1 ⟨rfl, ⟨x2, rfl⟩⟩))
  go_returns
  exact ⟨rfl, (by repeat' (first | exact Plus.refl _ | refine Plus.alloc ?_ _ | refine Plus.plus ?_ _ | refine Plus.drew ?_ | refine Plus.drewN ?_ _))⟩
theorem brem_v {ga gb : Bool} {Aa Ab : Option Addr} {xsa xsb : List Nat} {na ca nb cb : Nat} {za zb r : Int} {pb : Bool} {us : List Nat} {er : Int} {w : World} (h1 : Hid (BgV ga Aa xsa na ca za w)) (h2 : Hid (BgV gb Ab xsb nb cb zb w)) (hr : Hid (Bg.RemN za zb r er pb us)) (w0 : World) (hp : Plus w w0) : Calls Tryz.prog 97 #[.agg #[.bool ga, .slice Aa na ca], .agg #[.bool gb, .slice Ab nb cb]] w0 fun e w' => ∃ (A1 : Option Addr) (c1 : Nat), e = .returned (.tuple #[.agg #[.bool pb, .slice A1 us.length c1], .int .i64 er]) ∧ Bg.Arg w' A1 us us.length c1 ∧ Plus w0 w' :=
  Bg.rem_n (Lib.hid h1.out.2.1) (Lib.hid h2.out.2.1) hr w0 (h1.out.2.2.plus hp) (h2.out.2.2.plus hp)
set_option maxRecDepth 100000 in
set_option maxHeartbeats 4000000 in
theorem bigs_rem_y {ga gb : Bool} {Aa Ab : Option Addr} {xsa xsb : List Nat} {na ca nb cb : Nat} {za zb r : Int} {pb : Bool} {us : List Nat} (w : World) (h1 : Hid (BgV ga Aa xsa na ca za w)) (h2 : Hid (BgV gb Ab xsb nb cb zb w)) (hr : Hid (Bg.RemN za zb r 0 pb us)) : Calls Tryz.prog 47 #[.string ⟨#[37]⟩, .agg #[.bool ga, .slice Aa na ca], .agg #[.bool gb, .slice Ab nb cb]] w (RetB r w) := by
  go_enter Tryz.func47, Tryz.ntmps47
  have hm : Bg.Nm r pb us := hr.out.1
  go_wp2_with (first | (go_at_call 97; (with_reducible refine (brem_v h1 h2 hr _ (by repeat' (first | exact Plus.refl _ | refine Plus.alloc ?_ _ | refine Plus.plus ?_ _ | refine Plus.drew ?_ | refine Plus.drewN ?_ _))).mono ?_); rintro e w1 ⟨A3, c3, rfl, hC, ⟨x1, rfl⟩⟩; have HC := Lib.hid hC; clear hC) | (go_at_call 95; (with_reducible refine (divided_y _).mono ?_); rintro e w1 ⟨rfl, ⟨x2, rfl⟩⟩))
  go_returns
  exact ⟨pb, A3, us, us.length, c3, rfl, (BgV.mk3 hm HC.out).offs (by repeat (first | (refine Offp.of ?_; (repeat' (first | exact Offs.refl _ | refine Offs.plus ?_ _ | refine Offs.alloc ?_ _ | exact Offs.allocN (Offs.refl _) (nuV _ _ _ _ _ _ _ _ _ _ _ _) | refine Offs.allocN ?_ (nuV _ _ _ _ _ _ _ _ _ _ _ _) | refine Offs.allocN ?_ (nuB _ _ _ _ _) | refine Offs.allocN ?_ (nuN _ _ _) | refine Offs.drew ?_ | refine Offs.drewL ?_ | refine Offs.drewR ?_)); done) | refine Offp.plusR ?_ _ | refine Offp.allocR ?_ _ | refine Offp.drewR ?_)), (by repeat' (first | exact Plus.refl _ | refine Plus.alloc ?_ _ | refine Plus.plus ?_ _ | refine Plus.drew ?_ | refine Plus.drewN ?_ _))⟩
set_option maxRecDepth 100000 in
set_option maxHeartbeats 4000000 in
theorem bigs_rem_n {ga gb : Bool} {Aa Ab : Option Addr} {xsa xsb : List Nat} {na ca nb cb : Nat} {za zb r : Int} {pb : Bool} {us : List Nat} (w : World) (h1 : Hid (BgV ga Aa xsa na ca za w)) (h2 : Hid (BgV gb Ab xsb nb cb zb w)) (hr : Hid (Bg.RemN za zb r 4 pb us)) : Calls Tryz.prog 47 #[.string ⟨#[37]⟩, .agg #[.bool ga, .slice Aa na ca], .agg #[.bool gb, .slice Ab nb cb]] w (fun e w' => e = .returned (.tuple #[Value.agg #[.int .i64 0, .int .i64 0, .int .i64 0, .bool false, .slice none 0 0, .slice none 0 0, .int .i64 0], .int .i64 2]) ∧ Plus w w') := by
  go_enter Tryz.func47, Tryz.ntmps47
  go_wp2_with (first | (go_at_call 97; (with_reducible refine (brem_v h1 h2 hr _ (by repeat' (first | exact Plus.refl _ | refine Plus.alloc ?_ _ | refine Plus.plus ?_ _ | refine Plus.drew ?_ | refine Plus.drewN ?_ _))).mono ?_); rintro e w1 ⟨A3, c3, rfl, hC, ⟨x1, rfl⟩⟩; have HC := Lib.hid hC; clear hC) | (go_at_call 95; (with_reducible refine (divided_n _).mono ?_); rintro e w1 ⟨rfl, ⟨x2, rfl⟩⟩))
  go_returns
  exact ⟨rfl, (by repeat' (first | exact Plus.refl _ | refine Plus.alloc ?_ _ | refine Plus.plus ?_ _ | refine Plus.drew ?_ | refine Plus.drewN ?_ _))⟩
end Go.Proofs.YtgljfgkkolfnbaaGreatDoor
