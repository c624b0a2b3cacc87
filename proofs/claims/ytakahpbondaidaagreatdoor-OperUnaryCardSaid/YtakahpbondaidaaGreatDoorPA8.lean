/- oper: Binary, by its operators. -/
import Derived.Test.YtakahpbondaidaaGreatDoorPZR
import Derived.Test.YtakahpbondaidaaGreatDoorPA6
namespace Go.Proofs.YtakahpbondaidaaGreatDoor
open Go.RowKit

set_option maxRecDepth 100000 in
set_option maxHeartbeats 4000000 in
theorem bin_add {ka pa qa : Int} {ga : Bool} {Aa Ca : Option Addr} {na ca ma da : Nat} {ra : Int} {kb pb qb : Int} {gb : Bool} {Ab Cb : Option Addr} {nb cb mb db : Nat} {rb : Int} {k2 p2 q2 : Int} {g2 : Bool} {A2 C2 : Option Addr} {n2 c2 m2 d2 : Nat} {r2 : Int} {k3 p3 q3 : Int} {g3 : Bool} {A3 C3 : Option Addr} {n3 c3 m3 d3 : Nat} {r3 : Int} (w : World) (hva : Hid (Vldo w (Value.agg #[.int .i64 ka, .int .i64 pa, .int .i64 qa, .bool ga, .slice Aa na ca, .slice Ca ma da, .int .i64 ra]) (Value.agg #[.int .i64 k2, .int .i64 p2, .int .i64 q2, .bool g2, .slice A2 n2 c2, .slice C2 m2 d2, .int .i64 r2]))) (hvb : Hid (Vldo w (Value.agg #[.int .i64 kb, .int .i64 pb, .int .i64 qb, .bool gb, .slice Ab nb cb, .slice Cb mb db, .int .i64 rb]) (Value.agg #[.int .i64 k3, .int .i64 p3, .int .i64 q3, .bool g3, .slice A3 n3 c3, .slice C3 m3 d3, .int .i64 r3]))) {F : Value → Int → World → Prop} (hS : Stab F) (H : ∀ w1, Plus w w1 → Calls Tryz.prog 138 #[Value.agg #[.int .i64 k2, .int .i64 p2, .int .i64 q2, .bool g2, .slice A2 n2 c2, .slice C2 m2 d2, .int .i64 r2], Value.agg #[.int .i64 k3, .int .i64 p3, .int .i64 q3, .bool g3, .slice A3 n3 c3, .slice C3 m3 d3, .int .i64 r3]] w1 (RetF F w1)) : Calls Tryz.prog 77 #[.string ⟨#[43]⟩, Value.agg #[.int .i64 ka, .int .i64 pa, .int .i64 qa, .bool ga, .slice Aa na ca, .slice Ca ma da, .int .i64 ra], Value.agg #[.int .i64 kb, .int .i64 pb, .int .i64 qb, .bool gb, .slice Ab nb cb, .slice Cb mb db, .int .i64 rb]] w (RetF F w) := by
  go_enter Tryz.func77, Tryz.ntmps77
  go_upto_region 1 with fail
  go_cut [] (fun wx => ∃ x1 x2, wx = plus (plus (((w.alloc (.cells #[.int .i64 k2, .int .i64 p2, .int .i64 q2, .bool g2, .slice A2 n2 c2, .slice C2 m2 d2, .int .i64 r2] 29)).alloc (.cells #[.int .i64 k3, .int .i64 p3, .int .i64 q3, .bool g3, .slice A3 n3 c3, .slice C3 m3 d3, .int .i64 r3] 29)).alloc (.cells #[.int .i64 0, .int .i64 0, .int .i64 0, .bool false, .slice none 0 0, .slice none 0 0, .int .i64 0] 29)) x1) x2)
  case first =>
    go_region_with (first | (go_at_call_of 137 (Value.agg #[.int .i64 ka, .int .i64 pa, .int .i64 qa, .bool ga, .slice Aa na ca, .slice Ca ma da, .int .i64 ra]); (with_reducible refine (Vldo.call hva.out (by repeat' (first | exact Plus.refl _ | refine Plus.alloc ?_ _ | refine Plus.plus ?_ _ | refine Plus.drew ?_ | refine Plus.drewN ?_ _))).mono ?_); rintro e w1 ⟨rfl, ⟨x1, rfl⟩⟩) | (go_at_call_of 137 (Value.agg #[.int .i64 kb, .int .i64 pb, .int .i64 qb, .bool gb, .slice Ab nb cb, .slice Cb mb db, .int .i64 rb]); (with_reducible refine (Vldo.call hvb.out (by repeat' (first | exact Plus.refl _ | refine Plus.alloc ?_ _ | refine Plus.plus ?_ _ | refine Plus.drew ?_ | refine Plus.drewN ?_ _))).mono ?_); rintro e w1 ⟨rfl, ⟨y1, rfl⟩⟩))
    all_goals
      go_wp2_with fail
      go_meet
      exact ⟨_, _, rfl⟩
  case rest =>
    obtain ⟨x1, x2, rfl⟩ := hcut
    go_wp2_with (go_at_call 138; (with_reducible refine (H _ (by repeat' (first | exact Plus.refl _ | refine Plus.alloc ?_ _ | refine Plus.plus ?_ _ | refine Plus.drew ?_ | refine Plus.drewN ?_ _))).mono ?_); rintro e w1 ⟨k9, p9, q9, g9, A9, C9, n9, c9, m9, d9, r9, s9, rfl, hF, ⟨x9, rfl⟩⟩; have HF := Lib.hid hF; clear hF)
    go_returns
    exact ⟨_, _, _, _, _, _, _, _, _, _, _, _, rfl, hS _ _ _ _ HF.out (by repeat (first | (refine Offp.of ?_; (repeat' (first | exact Offs.refl _ | refine Offs.plus ?_ _ | refine Offs.alloc ?_ _ | exact Offs.allocN (Offs.refl _) (nuV _ _ _ _ _ _ _ _ _ _ _ _) | refine Offs.allocN ?_ (nuV _ _ _ _ _ _ _ _ _ _ _ _) | refine Offs.allocN ?_ (nuB _ _ _ _ _) | refine Offs.allocN ?_ (nuN _ _ _) | refine Offs.drew ?_ | refine Offs.drewL ?_ | refine Offs.drewR ?_)); done) | refine Offp.plusR ?_ _ | refine Offp.allocR ?_ _ | refine Offp.drewR ?_)), (by repeat' (first | exact Plus.refl _ | refine Plus.alloc ?_ _ | refine Plus.plus ?_ _ | refine Plus.drew ?_ | refine Plus.drewN ?_ _))⟩
set_option maxRecDepth 100000 in
set_option maxHeartbeats 4000000 in
theorem bin_div {ka pa qa : Int} {ga : Bool} {Aa Ca : Option Addr} {na ca ma da : Nat} {ra : Int} {kb pb qb : Int} {gb : Bool} {Ab Cb : Option Addr} {nb cb mb db : Nat} {rb : Int} {k2 p2 q2 : Int} {g2 : Bool} {A2 C2 : Option Addr} {n2 c2 m2 d2 : Nat} {r2 : Int} {k3 p3 q3 : Int} {g3 : Bool} {A3 C3 : Option Addr} {n3 c3 m3 d3 : Nat} {r3 : Int} (w : World) (hva : Hid (Vldo w (Value.agg #[.int .i64 ka, .int .i64 pa, .int .i64 qa, .bool ga, .slice Aa na ca, .slice Ca ma da, .int .i64 ra]) (Value.agg #[.int .i64 k2, .int .i64 p2, .int .i64 q2, .bool g2, .slice A2 n2 c2, .slice C2 m2 d2, .int .i64 r2]))) (hvb : Hid (Vldo w (Value.agg #[.int .i64 kb, .int .i64 pb, .int .i64 qb, .bool gb, .slice Ab nb cb, .slice Cb mb db, .int .i64 rb]) (Value.agg #[.int .i64 k3, .int .i64 p3, .int .i64 q3, .bool g3, .slice A3 n3 c3, .slice C3 m3 d3, .int .i64 r3]))) {F : Value → Int → World → Prop} (hS : Stab F) (H : ∀ w1, Plus w w1 → Calls Tryz.prog 139 #[.string ⟨#[47]⟩, Value.agg #[.int .i64 k2, .int .i64 p2, .int .i64 q2, .bool g2, .slice A2 n2 c2, .slice C2 m2 d2, .int .i64 r2], Value.agg #[.int .i64 k3, .int .i64 p3, .int .i64 q3, .bool g3, .slice A3 n3 c3, .slice C3 m3 d3, .int .i64 r3]] w1 (RetF F w1)) : Calls Tryz.prog 77 #[.string ⟨#[47]⟩, Value.agg #[.int .i64 ka, .int .i64 pa, .int .i64 qa, .bool ga, .slice Aa na ca, .slice Ca ma da, .int .i64 ra], Value.agg #[.int .i64 kb, .int .i64 pb, .int .i64 qb, .bool gb, .slice Ab nb cb, .slice Cb mb db, .int .i64 rb]] w (RetF F w) := by
  go_enter Tryz.func77, Tryz.ntmps77
  go_upto_region 1 with fail
  go_cut [] (fun wx => ∃ x1 x2, wx = plus (plus (((w.alloc (.cells #[.int .i64 k2, .int .i64 p2, .int .i64 q2, .bool g2, .slice A2 n2 c2, .slice C2 m2 d2, .int .i64 r2] 29)).alloc (.cells #[.int .i64 k3, .int .i64 p3, .int .i64 q3, .bool g3, .slice A3 n3 c3, .slice C3 m3 d3, .int .i64 r3] 29)).alloc (.cells #[.int .i64 0, .int .i64 0, .int .i64 0, .bool false, .slice none 0 0, .slice none 0 0, .int .i64 0] 29)) x1) x2)
  case first =>
    go_region_with (first | (go_at_call_of 137 (Value.agg #[.int .i64 ka, .int .i64 pa, .int .i64 qa, .bool ga, .slice Aa na ca, .slice Ca ma da, .int .i64 ra]); (with_reducible refine (Vldo.call hva.out (by repeat' (first | exact Plus.refl _ | refine Plus.alloc ?_ _ | refine Plus.plus ?_ _ | refine Plus.drew ?_ | refine Plus.drewN ?_ _))).mono ?_); rintro e w1 ⟨rfl, ⟨x1, rfl⟩⟩) | (go_at_call_of 137 (Value.agg #[.int .i64 kb, .int .i64 pb, .int .i64 qb, .bool gb, .slice Ab nb cb, .slice Cb mb db, .int .i64 rb]); (with_reducible refine (Vldo.call hvb.out (by repeat' (first | exact Plus.refl _ | refine Plus.alloc ?_ _ | refine Plus.plus ?_ _ | refine Plus.drew ?_ | refine Plus.drewN ?_ _))).mono ?_); rintro e w1 ⟨rfl, ⟨y1, rfl⟩⟩))
    all_goals
      go_wp2_with fail
      go_meet
      exact ⟨_, _, rfl⟩
  case rest =>
    obtain ⟨x1, x2, rfl⟩ := hcut
    go_wp2_with (go_at_call 139; (with_reducible refine (H _ (by repeat' (first | exact Plus.refl _ | refine Plus.alloc ?_ _ | refine Plus.plus ?_ _ | refine Plus.drew ?_ | refine Plus.drewN ?_ _))).mono ?_); rintro e w1 ⟨k9, p9, q9, g9, A9, C9, n9, c9, m9, d9, r9, s9, rfl, hF, ⟨x9, rfl⟩⟩; have HF := Lib.hid hF; clear hF)
    go_returns
    exact ⟨_, _, _, _, _, _, _, _, _, _, _, _, rfl, hS _ _ _ _ HF.out (by repeat (first | (refine Offp.of ?_; (repeat' (first | exact Offs.refl _ | refine Offs.plus ?_ _ | refine Offs.alloc ?_ _ | exact Offs.allocN (Offs.refl _) (nuV _ _ _ _ _ _ _ _ _ _ _ _) | refine Offs.allocN ?_ (nuV _ _ _ _ _ _ _ _ _ _ _ _) | refine Offs.allocN ?_ (nuB _ _ _ _ _) | refine Offs.allocN ?_ (nuN _ _ _) | refine Offs.drew ?_ | refine Offs.drewL ?_ | refine Offs.drewR ?_)); done) | refine Offp.plusR ?_ _ | refine Offp.allocR ?_ _ | refine Offp.drewR ?_)), (by repeat' (first | exact Plus.refl _ | refine Plus.alloc ?_ _ | refine Plus.plus ?_ _ | refine Plus.drew ?_ | refine Plus.drewN ?_ _))⟩
end Go.Proofs.YtakahpbondaidaaGreatDoor
namespace Go.Proofs.YtakahpbondaidaaGreatDoor
open Go.RowKit

set_option maxRecDepth 100000 in
set_option maxHeartbeats 4000000 in
theorem bin_lt {ka pa qa : Int} {ga : Bool} {Aa Ca : Option Addr} {na ca ma da : Nat} {ra : Int} {kb pb qb : Int} {gb : Bool} {Ab Cb : Option Addr} {nb cb mb db : Nat} {rb : Int} {k2 p2 q2 : Int} {g2 : Bool} {A2 C2 : Option Addr} {n2 c2 m2 d2 : Nat} {r2 : Int} {k3 p3 q3 : Int} {g3 : Bool} {A3 C3 : Option Addr} {n3 c3 m3 d3 : Nat} {r3 : Int} (w : World) (hva : Hid (Vldo w (Value.agg #[.int .i64 ka, .int .i64 pa, .int .i64 qa, .bool ga, .slice Aa na ca, .slice Ca ma da, .int .i64 ra]) (Value.agg #[.int .i64 k2, .int .i64 p2, .int .i64 q2, .bool g2, .slice A2 n2 c2, .slice C2 m2 d2, .int .i64 r2]))) (hvb : Hid (Vldo w (Value.agg #[.int .i64 kb, .int .i64 pb, .int .i64 qb, .bool gb, .slice Ab nb cb, .slice Cb mb db, .int .i64 rb]) (Value.agg #[.int .i64 k3, .int .i64 p3, .int .i64 q3, .bool g3, .slice A3 n3 c3, .slice C3 m3 d3, .int .i64 r3]))) {F : Value → Int → World → Prop} (hS : Stab F) (H : ∀ w1, Plus w w1 → Calls Tryz.prog 141 #[.string ⟨#[60]⟩, Value.agg #[.int .i64 k2, .int .i64 p2, .int .i64 q2, .bool g2, .slice A2 n2 c2, .slice C2 m2 d2, .int .i64 r2], Value.agg #[.int .i64 k3, .int .i64 p3, .int .i64 q3, .bool g3, .slice A3 n3 c3, .slice C3 m3 d3, .int .i64 r3]] w1 (RetF F w1)) : Calls Tryz.prog 77 #[.string ⟨#[60]⟩, Value.agg #[.int .i64 ka, .int .i64 pa, .int .i64 qa, .bool ga, .slice Aa na ca, .slice Ca ma da, .int .i64 ra], Value.agg #[.int .i64 kb, .int .i64 pb, .int .i64 qb, .bool gb, .slice Ab nb cb, .slice Cb mb db, .int .i64 rb]] w (RetF F w) := by
  go_enter Tryz.func77, Tryz.ntmps77
  go_upto_region 1 with fail
  go_cut [] (fun wx => ∃ x1 x2, wx = plus (plus (((w.alloc (.cells #[.int .i64 k2, .int .i64 p2, .int .i64 q2, .bool g2, .slice A2 n2 c2, .slice C2 m2 d2, .int .i64 r2] 29)).alloc (.cells #[.int .i64 k3, .int .i64 p3, .int .i64 q3, .bool g3, .slice A3 n3 c3, .slice C3 m3 d3, .int .i64 r3] 29)).alloc (.cells #[.int .i64 0, .int .i64 0, .int .i64 0, .bool false, .slice none 0 0, .slice none 0 0, .int .i64 0] 29)) x1) x2)
  case first =>
    go_region_with (first | (go_at_call_of 137 (Value.agg #[.int .i64 ka, .int .i64 pa, .int .i64 qa, .bool ga, .slice Aa na ca, .slice Ca ma da, .int .i64 ra]); (with_reducible refine (Vldo.call hva.out (by repeat' (first | exact Plus.refl _ | refine Plus.alloc ?_ _ | refine Plus.plus ?_ _ | refine Plus.drew ?_ | refine Plus.drewN ?_ _))).mono ?_); rintro e w1 ⟨rfl, ⟨x1, rfl⟩⟩) | (go_at_call_of 137 (Value.agg #[.int .i64 kb, .int .i64 pb, .int .i64 qb, .bool gb, .slice Ab nb cb, .slice Cb mb db, .int .i64 rb]); (with_reducible refine (Vldo.call hvb.out (by repeat' (first | exact Plus.refl _ | refine Plus.alloc ?_ _ | refine Plus.plus ?_ _ | refine Plus.drew ?_ | refine Plus.drewN ?_ _))).mono ?_); rintro e w1 ⟨rfl, ⟨y1, rfl⟩⟩))
    all_goals
      go_wp2_with fail
      go_meet
      exact ⟨_, _, rfl⟩
  case rest =>
    obtain ⟨x1, x2, rfl⟩ := hcut
    go_wp2_with (go_at_call 141; (with_reducible refine (H _ (by repeat' (first | exact Plus.refl _ | refine Plus.alloc ?_ _ | refine Plus.plus ?_ _ | refine Plus.drew ?_ | refine Plus.drewN ?_ _))).mono ?_); rintro e w1 ⟨k9, p9, q9, g9, A9, C9, n9, c9, m9, d9, r9, s9, rfl, hF, ⟨x9, rfl⟩⟩; have HF := Lib.hid hF; clear hF)
    go_returns
    exact ⟨_, _, _, _, _, _, _, _, _, _, _, _, rfl, hS _ _ _ _ HF.out (by repeat (first | (refine Offp.of ?_; (repeat' (first | exact Offs.refl _ | refine Offs.plus ?_ _ | refine Offs.alloc ?_ _ | exact Offs.allocN (Offs.refl _) (nuV _ _ _ _ _ _ _ _ _ _ _ _) | refine Offs.allocN ?_ (nuV _ _ _ _ _ _ _ _ _ _ _ _) | refine Offs.allocN ?_ (nuB _ _ _ _ _) | refine Offs.allocN ?_ (nuN _ _ _) | refine Offs.drew ?_ | refine Offs.drewL ?_ | refine Offs.drewR ?_)); done) | refine Offp.plusR ?_ _ | refine Offp.allocR ?_ _ | refine Offp.drewR ?_)), (by repeat' (first | exact Plus.refl _ | refine Plus.alloc ?_ _ | refine Plus.plus ?_ _ | refine Plus.drew ?_ | refine Plus.drewN ?_ _))⟩
end Go.Proofs.YtakahpbondaidaaGreatDoor
