/- Contract: conv.Loose, kinds alike. -/
import Derived.Test.YtakahpbondaidaaGreatDoorZK
namespace Go.Proofs.YtakahpbondaidaaGreatDoor
open Go.RowKit

set_option maxRecDepth 100000 in
set_option maxHeartbeats 4000000 in
theorem loose_e {ka pa qa : Int} {ga : Bool} {Aa Ca : Option Addr} {na ca ma da : Nat} {ra : Int} {kb pb qb : Int} {gb : Bool} {Ab Cb : Option Addr} {nb cb mb db : Nat} {rb : Int} {k2 p2 q2 : Int} {g2 : Bool} {A2 C2 : Option Addr} {n2 c2 m2 d2 : Nat} {r2 : Int} {p3 q3 : Int} {g3 : Bool} {A3 C3 : Option Addr} {n3 c3 m3 d3 : Nat} {r3 : Int} {x y : JV} {z : Bool} (w : World) (hva : Hid (Vld w (Value.agg #[.int .i64 ka, .int .i64 pa, .int .i64 qa, .bool ga, .slice Aa na ca, .slice Ca ma da, .int .i64 ra]) (Value.agg #[.int .i64 k2, .int .i64 p2, .int .i64 q2, .bool g2, .slice A2 n2 c2, .slice C2 m2 d2, .int .i64 r2]))) (hvb : Hid (Vld w (Value.agg #[.int .i64 kb, .int .i64 pb, .int .i64 qb, .bool gb, .slice Ab nb cb, .slice Cb mb db, .int .i64 rb]) (Value.agg #[.int .i64 k2, .int .i64 p3, .int .i64 q3, .bool g3, .slice A3 n3 c3, .slice C3 m3 d3, .int .i64 r3]))) (hx : Hid (NV w (Value.agg #[.int .i64 k2, .int .i64 p2, .int .i64 q2, .bool g2, .slice A2 n2 c2, .slice C2 m2 d2, .int .i64 r2]) x)) (hy : Hid (NV w (Value.agg #[.int .i64 k2, .int .i64 p3, .int .i64 q3, .bool g3, .slice A3 n3 c3, .slice C3 m3 d3, .int .i64 r3]) y)) (hz : Hid (strictJ x y = z)) : Calls Tryz.prog 27 #[Value.agg #[.int .i64 ka, .int .i64 pa, .int .i64 qa, .bool ga, .slice Aa na ca, .slice Ca ma da, .int .i64 ra], Value.agg #[.int .i64 kb, .int .i64 pb, .int .i64 qb, .bool gb, .slice Ab nb cb, .slice Cb mb db, .int .i64 rb]] w fun e w' => e = .returned (.tuple #[.bool z, .int .i64 0]) ∧ Plus w w' := by
  go_enter Tryz.func27, Tryz.ntmps27
  go_upto_region 1 with fail
  go_cut [] (fun wx => Plus ((w.alloc (.cells #[.int .i64 k2, .int .i64 p2, .int .i64 q2, .bool g2, .slice A2 n2 c2, .slice C2 m2 d2, .int .i64 r2] 29)).alloc (.cells #[.int .i64 k2, .int .i64 p3, .int .i64 q3, .bool g3, .slice A3 n3 c3, .slice C3 m3 d3, .int .i64 r3] 29)) wx)
  case first =>
    go_region_with (first | (go_at_call_of 43 (Value.agg #[.int .i64 ka, .int .i64 pa, .int .i64 qa, .bool ga, .slice Aa na ca, .slice Ca ma da, .int .i64 ra]); (with_reducible refine (Vld.call hva.out (by repeat' (first | exact Plus.refl _ | refine Plus.alloc ?_ _ | refine Plus.plus ?_ _ | refine Plus.drew ?_ | refine Plus.drewN ?_ _))).mono ?_); rintro e w1 ⟨rfl, ⟨y1, rfl⟩⟩) | (go_at_call_of 43 (Value.agg #[.int .i64 kb, .int .i64 pb, .int .i64 qb, .bool gb, .slice Ab nb cb, .slice Cb mb db, .int .i64 rb]); (with_reducible refine (Vld.call hvb.out (by repeat' (first | exact Plus.refl _ | refine Plus.alloc ?_ _ | refine Plus.plus ?_ _ | refine Plus.drew ?_ | refine Plus.drewN ?_ _))).mono ?_); rintro e w1 ⟨rfl, ⟨y2, rfl⟩⟩))
    all_goals
      go_wp2_with fail
      go_meet
      exact (by repeat' (first | exact Plus.refl _ | refine Plus.alloc ?_ _ | refine Plus.plus ?_ _ | refine Plus.drew ?_ | refine Plus.drewN ?_ _))
  case rest =>
    obtain ⟨x1, rfl⟩ := hcut
    go_wp2_with (go_at_call 29; (with_reducible refine (cstrict_v hz _ (hx.out.plus (by repeat' (first | exact Plus.refl _ | refine Plus.alloc ?_ _ | refine Plus.plus ?_ _ | refine Plus.drew ?_ | refine Plus.drewN ?_ _))) (hy.out.plus (by repeat' (first | exact Plus.refl _ | refine Plus.alloc ?_ _ | refine Plus.plus ?_ _ | refine Plus.drew ?_ | refine Plus.drewN ?_ _))) (hx.out.vld.plus (by repeat' (first | exact Plus.refl _ | refine Plus.alloc ?_ _ | refine Plus.plus ?_ _ | refine Plus.drew ?_ | refine Plus.drewN ?_ _))) (hy.out.vld.plus (by repeat' (first | exact Plus.refl _ | refine Plus.alloc ?_ _ | refine Plus.plus ?_ _ | refine Plus.drew ?_ | refine Plus.drewN ?_ _)))).mono ?_); rintro e w2 ⟨rfl, ⟨x3, rfl⟩⟩)
    go_returns
    exact ⟨rfl, (by repeat' (first | exact Plus.refl _ | refine Plus.alloc ?_ _ | refine Plus.plus ?_ _ | refine Plus.drew ?_ | refine Plus.drewN ?_ _))⟩
set_option maxRecDepth 100000 in
set_option maxHeartbeats 4000000 in
theorem loose_n2 {ka pa qa : Int} {ga : Bool} {Aa Ca : Option Addr} {na ca ma da : Nat} {ra : Int} {kb pb qb : Int} {gb : Bool} {Ab Cb : Option Addr} {nb cb mb db : Nat} {rb : Int} {k2 p2 q2 : Int} {g2 : Bool} {A2 C2 : Option Addr} {n2 c2 m2 d2 : Nat} {r2 : Int} {k3 p3 q3 : Int} {g3 : Bool} {A3 C3 : Option Addr} {n3 c3 m3 d3 : Nat} {r3 : Int} (w : World) (hva : Hid (Vld w (Value.agg #[.int .i64 ka, .int .i64 pa, .int .i64 qa, .bool ga, .slice Aa na ca, .slice Ca ma da, .int .i64 ra]) (Value.agg #[.int .i64 k2, .int .i64 p2, .int .i64 q2, .bool g2, .slice A2 n2 c2, .slice C2 m2 d2, .int .i64 r2]))) (hvb : Hid (Vld w (Value.agg #[.int .i64 kb, .int .i64 pb, .int .i64 qb, .bool gb, .slice Ab nb cb, .slice Cb mb db, .int .i64 rb]) (Value.agg #[.int .i64 k3, .int .i64 p3, .int .i64 q3, .bool g3, .slice A3 n3 c3, .slice C3 m3 d3, .int .i64 r3]))) (b0 : (k2 == k3) = false) (b1 : Hid (nothB k2 = false)) (b2 : Hid (nothB k3 = true)) : Calls Tryz.prog 27 #[Value.agg #[.int .i64 ka, .int .i64 pa, .int .i64 qa, .bool ga, .slice Aa na ca, .slice Ca ma da, .int .i64 ra], Value.agg #[.int .i64 kb, .int .i64 pb, .int .i64 qb, .bool gb, .slice Ab nb cb, .slice Cb mb db, .int .i64 rb]] w fun e w' => e = .returned (.tuple #[.bool false, .int .i64 0]) ∧ Plus w w' := by
  go_enter Tryz.func27, Tryz.ntmps27
  go_upto_region 1 with fail
  go_cut [] (fun wx => Plus ((w.alloc (.cells #[.int .i64 k2, .int .i64 p2, .int .i64 q2, .bool g2, .slice A2 n2 c2, .slice C2 m2 d2, .int .i64 r2] 29)).alloc (.cells #[.int .i64 k3, .int .i64 p3, .int .i64 q3, .bool g3, .slice A3 n3 c3, .slice C3 m3 d3, .int .i64 r3] 29)) wx)
  case first =>
    go_region_with (first | (go_at_call_of 43 (Value.agg #[.int .i64 ka, .int .i64 pa, .int .i64 qa, .bool ga, .slice Aa na ca, .slice Ca ma da, .int .i64 ra]); (with_reducible refine (Vld.call hva.out (by repeat' (first | exact Plus.refl _ | refine Plus.alloc ?_ _ | refine Plus.plus ?_ _ | refine Plus.drew ?_ | refine Plus.drewN ?_ _))).mono ?_); rintro e w1 ⟨rfl, ⟨y1, rfl⟩⟩) | (go_at_call_of 43 (Value.agg #[.int .i64 kb, .int .i64 pb, .int .i64 qb, .bool gb, .slice Ab nb cb, .slice Cb mb db, .int .i64 rb]); (with_reducible refine (Vld.call hvb.out (by repeat' (first | exact Plus.refl _ | refine Plus.alloc ?_ _ | refine Plus.plus ?_ _ | refine Plus.drew ?_ | refine Plus.drewN ?_ _))).mono ?_); rintro e w1 ⟨rfl, ⟨y2, rfl⟩⟩))
    all_goals
      go_wp2_with fail
      go_meet
      exact (by repeat' (first | exact Plus.refl _ | refine Plus.alloc ?_ _ | refine Plus.plus ?_ _ | refine Plus.drew ?_ | refine Plus.drewN ?_ _))
  case rest =>
    obtain ⟨x1, rfl⟩ := hcut
    go_wp2_with (first | (go_at_call_of 69 (Value.agg #[.int .i64 k2, .int .i64 p2, .int .i64 q2, .bool g2, .slice A2 n2 c2, .slice C2 m2 d2, .int .i64 r2]); (with_reducible refine (noth_v b1 _).mono ?_); rintro e w2 ⟨rfl, ⟨x3, rfl⟩⟩) | (go_at_call_of 69 (Value.agg #[.int .i64 k3, .int .i64 p3, .int .i64 q3, .bool g3, .slice A3 n3 c3, .slice C3 m3 d3, .int .i64 r3]); (with_reducible refine (noth_v b2 _).mono ?_); rintro e w2 ⟨rfl, ⟨x3, rfl⟩⟩))
    go_returns
    exact ⟨rfl, (by repeat' (first | exact Plus.refl _ | refine Plus.alloc ?_ _ | refine Plus.plus ?_ _ | refine Plus.drew ?_ | refine Plus.drewN ?_ _))⟩
end Go.Proofs.YtakahpbondaidaaGreatDoor
