/- Contract: conv.Loose, pairs of kinds. -/
import Derived.Test.YtakahpbondaidaaGreatDoorZK
namespace Go.Proofs.YtakahpbondaidaaGreatDoor
open Go.RowKit

set_option maxRecDepth 100000 in
set_option maxHeartbeats 4000000 in
theorem loose_46 {ka pa qa : Int} {ga : Bool} {Aa Ca : Option Addr} {na ca ma da : Nat} {ra : Int} {kb pb qb : Int} {gb : Bool} {Ab Cb : Option Addr} {nb cb mb db : Nat} {rb : Int} {A2 C2 : Option Addr} {c2 d2 : Nat} {g2 : Bool} {n2 : Nat} {A3 C3 : Option Addr} {c3 d3 : Nat} {r3 : Int} (w : World) (hva : Hid (Vld w (Value.agg #[.int .i64 ka, .int .i64 pa, .int .i64 qa, .bool ga, .slice Aa na ca, .slice Ca ma da, .int .i64 ra]) (Value.agg #[.int .i64 4, .int .i64 0, .int .i64 0, .bool g2, .slice A2 n2 c2, .slice C2 0 d2, .int .i64 0]))) (hvb : Hid (Vld w (Value.agg #[.int .i64 kb, .int .i64 pb, .int .i64 qb, .bool gb, .slice Ab nb cb, .slice Cb mb db, .int .i64 rb]) (Value.agg #[.int .i64 6, .int .i64 0, .int .i64 0, .bool false, .slice A3 0 c3, .slice C3 0 d3, .int .i64 r3]))) (b2 : Hid (nothB 4 = false)) (b3 : Hid (nothB 6 = false)) : Calls Tryz.prog 27 #[Value.agg #[.int .i64 ka, .int .i64 pa, .int .i64 qa, .bool ga, .slice Aa na ca, .slice Ca ma da, .int .i64 ra], Value.agg #[.int .i64 kb, .int .i64 pb, .int .i64 qb, .bool gb, .slice Ab nb cb, .slice Cb mb db, .int .i64 rb]] w fun e w' => e = .returned (.tuple #[.bool false, .int .i64 3]) ∧ Plus w w' := by
  go_enter Tryz.func27, Tryz.ntmps27
  go_upto_region 1 with fail
  go_cut [] (fun wx => Plus ((w.alloc (.cells #[.int .i64 4, .int .i64 0, .int .i64 0, .bool g2, .slice A2 n2 c2, .slice C2 0 d2, .int .i64 0] 29)).alloc (.cells #[.int .i64 6, .int .i64 0, .int .i64 0, .bool false, .slice A3 0 c3, .slice C3 0 d3, .int .i64 r3] 29)) wx)
  case first =>
    go_region_with (first | (go_at_call_of 43 (Value.agg #[.int .i64 ka, .int .i64 pa, .int .i64 qa, .bool ga, .slice Aa na ca, .slice Ca ma da, .int .i64 ra]); (with_reducible refine (Vld.call hva.out (by repeat' (first | exact Plus.refl _ | refine Plus.alloc ?_ _ | refine Plus.plus ?_ _ | refine Plus.drew ?_ | refine Plus.drewN ?_ _))).mono ?_); rintro e w1 ⟨rfl, ⟨y1, rfl⟩⟩) | (go_at_call_of 43 (Value.agg #[.int .i64 kb, .int .i64 pb, .int .i64 qb, .bool gb, .slice Ab nb cb, .slice Cb mb db, .int .i64 rb]); (with_reducible refine (Vld.call hvb.out (by repeat' (first | exact Plus.refl _ | refine Plus.alloc ?_ _ | refine Plus.plus ?_ _ | refine Plus.drew ?_ | refine Plus.drewN ?_ _))).mono ?_); rintro e w1 ⟨rfl, ⟨y2, rfl⟩⟩))
    all_goals
      go_wp2_with fail
      go_meet
      exact (by repeat' (first | exact Plus.refl _ | refine Plus.alloc ?_ _ | refine Plus.plus ?_ _ | refine Plus.drew ?_ | refine Plus.drewN ?_ _))
  case rest =>
    obtain ⟨x1, rfl⟩ := hcut
    go_upto_region 6 with (first | (go_at_call_of 69 (Value.agg #[.int .i64 4, .int .i64 0, .int .i64 0, .bool g2, .slice A2 n2 c2, .slice C2 0 d2, .int .i64 0]); (with_reducible refine (noth_v b2 _).mono ?_); rintro e w2 ⟨rfl, ⟨x3, rfl⟩⟩) | (go_at_call_of 69 (Value.agg #[.int .i64 6, .int .i64 0, .int .i64 0, .bool false, .slice A3 0 c3, .slice C3 0 d3, .int .i64 r3]); (with_reducible refine (noth_v b3 _).mono ?_); rintro e w2 ⟨rfl, ⟨x3, rfl⟩⟩))
    go_cut [] (fun wx => Plus ((w.alloc (.cells #[.int .i64 4, .int .i64 0, .int .i64 0, .bool g2, .slice A2 n2 c2, .slice C2 0 d2, .int .i64 0] 29)).alloc (.cells #[.int .i64 6, .int .i64 0, .int .i64 0, .bool false, .slice A3 0 c3, .slice C3 0 d3, .int .i64 r3] 29)) wx)
    case first =>
      go_region_with (first | (go_at_call_of 70 (Value.agg #[.int .i64 4, .int .i64 0, .int .i64 0, .bool g2, .slice A2 n2 c2, .slice C2 0 d2, .int .i64 0]); (with_reducible refine (wob_o _ (by decide)).mono ?_); rintro e w1 ⟨rfl, ⟨y1, rfl⟩⟩) | (go_at_call_of 70 (Value.agg #[.int .i64 6, .int .i64 0, .int .i64 0, .bool false, .slice A3 0 c3, .slice C3 0 d3, .int .i64 r3]); (with_reducible refine (wob_o _ (by decide)).mono ?_); rintro e w1 ⟨rfl, ⟨y2, rfl⟩⟩))
      all_goals
        go_wp2_with fail
        go_meet
        exact (by repeat' (first | exact Plus.refl _ | refine Plus.alloc ?_ _ | refine Plus.plus ?_ _ | refine Plus.drew ?_ | refine Plus.drewN ?_ _))
    case rest =>
      obtain ⟨x6, rfl⟩ := hcut
      go_wp2_with fail
      go_returns
      exact ⟨rfl, (by repeat' (first | exact Plus.refl _ | refine Plus.alloc ?_ _ | refine Plus.plus ?_ _ | refine Plus.drew ?_ | refine Plus.drewN ?_ _))⟩
set_option maxRecDepth 100000 in
set_option maxHeartbeats 4000000 in
theorem loose_53 {ka pa qa : Int} {ga : Bool} {Aa Ca : Option Addr} {na ca ma da : Nat} {ra : Int} {kb pb qb : Int} {gb : Bool} {Ab Cb : Option Addr} {nb cb mb db : Nat} {rb : Int} {A2 C2 : Option Addr} {c2 d2 : Nat} {m2 : Nat} {A3 C3 : Option Addr} {c3 d3 : Nat} {p3 q3 : Int} {z : Bool} {sg : Int} {us2 : List Nat} (w : World) (hva : Hid (Vld w (Value.agg #[.int .i64 ka, .int .i64 pa, .int .i64 qa, .bool ga, .slice Aa na ca, .slice Ca ma da, .int .i64 ra]) (Value.agg #[.int .i64 5, .int .i64 0, .int .i64 0, .bool false, .slice A2 0 c2, .slice C2 m2 d2, .int .i64 0]))) (hvb : Hid (Vld w (Value.agg #[.int .i64 kb, .int .i64 pb, .int .i64 qb, .bool gb, .slice Ab nb cb, .slice Cb mb db, .int .i64 rb]) (Value.agg #[.int .i64 3, .int .i64 p3, .int .i64 q3, .bool false, .slice A3 0 c3, .slice C3 0 d3, .int .i64 0]))) (b2 : Hid (nothB 5 = false)) (b3 : Hid (nothB 3 = false)) (hz : Hid (readsU p3 q3 us2 = ⟨z, sg⟩)) (hm : m2 ≤ 4096) (hL : Hid (Lai w)) (hs : Hid (Ar .u16 65536 w C2 us2 m2 d2)) : Calls Tryz.prog 27 #[Value.agg #[.int .i64 ka, .int .i64 pa, .int .i64 qa, .bool ga, .slice Aa na ca, .slice Ca ma da, .int .i64 ra], Value.agg #[.int .i64 kb, .int .i64 pb, .int .i64 qb, .bool gb, .slice Ab nb cb, .slice Cb mb db, .int .i64 rb]] w fun e w' => e = .returned (.tuple #[.bool z, .int .i64 sg]) ∧ Plus w w' := by
  go_enter Tryz.func27, Tryz.ntmps27
  go_upto_region 1 with fail
  go_cut [] (fun wx => Plus ((w.alloc (.cells #[.int .i64 5, .int .i64 0, .int .i64 0, .bool false, .slice A2 0 c2, .slice C2 m2 d2, .int .i64 0] 29)).alloc (.cells #[.int .i64 3, .int .i64 p3, .int .i64 q3, .bool false, .slice A3 0 c3, .slice C3 0 d3, .int .i64 0] 29)) wx)
  case first =>
    go_region_with (first | (go_at_call_of 43 (Value.agg #[.int .i64 ka, .int .i64 pa, .int .i64 qa, .bool ga, .slice Aa na ca, .slice Ca ma da, .int .i64 ra]); (with_reducible refine (Vld.call hva.out (by repeat' (first | exact Plus.refl _ | refine Plus.alloc ?_ _ | refine Plus.plus ?_ _ | refine Plus.drew ?_ | refine Plus.drewN ?_ _))).mono ?_); rintro e w1 ⟨rfl, ⟨y1, rfl⟩⟩) | (go_at_call_of 43 (Value.agg #[.int .i64 kb, .int .i64 pb, .int .i64 qb, .bool gb, .slice Ab nb cb, .slice Cb mb db, .int .i64 rb]); (with_reducible refine (Vld.call hvb.out (by repeat' (first | exact Plus.refl _ | refine Plus.alloc ?_ _ | refine Plus.plus ?_ _ | refine Plus.drew ?_ | refine Plus.drewN ?_ _))).mono ?_); rintro e w1 ⟨rfl, ⟨y2, rfl⟩⟩))
    all_goals
      go_wp2_with fail
      go_meet
      exact (by repeat' (first | exact Plus.refl _ | refine Plus.alloc ?_ _ | refine Plus.plus ?_ _ | refine Plus.drew ?_ | refine Plus.drewN ?_ _))
  case rest =>
    obtain ⟨x1, rfl⟩ := hcut
    go_upto_region 6 with (first | (go_at_call_of 69 (Value.agg #[.int .i64 5, .int .i64 0, .int .i64 0, .bool false, .slice A2 0 c2, .slice C2 m2 d2, .int .i64 0]); (with_reducible refine (noth_v b2 _).mono ?_); rintro e w2 ⟨rfl, ⟨x3, rfl⟩⟩) | (go_at_call_of 69 (Value.agg #[.int .i64 3, .int .i64 p3, .int .i64 q3, .bool false, .slice A3 0 c3, .slice C3 0 d3, .int .i64 0]); (with_reducible refine (noth_v b3 _).mono ?_); rintro e w2 ⟨rfl, ⟨x3, rfl⟩⟩))
    go_cut [] (fun wx => Plus ((w.alloc (.cells #[.int .i64 5, .int .i64 0, .int .i64 0, .bool false, .slice A2 0 c2, .slice C2 m2 d2, .int .i64 0] 29)).alloc (.cells #[.int .i64 3, .int .i64 p3, .int .i64 q3, .bool false, .slice A3 0 c3, .slice C3 0 d3, .int .i64 0] 29)) wx)
    case first =>
      go_region_with (first | (go_at_call_of 70 (Value.agg #[.int .i64 5, .int .i64 0, .int .i64 0, .bool false, .slice A2 0 c2, .slice C2 m2 d2, .int .i64 0]); (with_reducible refine (wob_o _ (by decide)).mono ?_); rintro e w1 ⟨rfl, ⟨y1, rfl⟩⟩) | (go_at_call_of 70 (Value.agg #[.int .i64 3, .int .i64 p3, .int .i64 q3, .bool false, .slice A3 0 c3, .slice C3 0 d3, .int .i64 0]); (with_reducible refine (wob_o _ (by decide)).mono ?_); rintro e w1 ⟨rfl, ⟨y2, rfl⟩⟩))
      all_goals
        go_wp2_with fail
        go_meet
        exact (by repeat' (first | exact Plus.refl _ | refine Plus.alloc ?_ _ | refine Plus.plus ?_ _ | refine Plus.drew ?_ | refine Plus.drewN ?_ _))
    case rest =>
      obtain ⟨x6, rfl⟩ := hcut
      go_wp2_with (go_at_call 72; (with_reducible refine (reads_v hz hm _ (hL.out.plus (by repeat' (first | exact Plus.refl _ | refine Plus.alloc ?_ _ | refine Plus.plus ?_ _ | refine Plus.drew ?_ | refine Plus.drewN ?_ _))) (hs.out.plus (by repeat' (first | exact Plus.refl _ | refine Plus.alloc ?_ _ | refine Plus.plus ?_ _ | refine Plus.drew ?_ | refine Plus.drewN ?_ _)))).mono ?_); rintro e w2 ⟨rfl, ⟨x3, rfl⟩⟩)
      go_returns
      exact ⟨rfl, (by repeat' (first | exact Plus.refl _ | refine Plus.alloc ?_ _ | refine Plus.plus ?_ _ | refine Plus.drew ?_ | refine Plus.drewN ?_ _))⟩
set_option maxRecDepth 100000 in
set_option maxHeartbeats 4000000 in
theorem loose_54 {ka pa qa : Int} {ga : Bool} {Aa Ca : Option Addr} {na ca ma da : Nat} {ra : Int} {kb pb qb : Int} {gb : Bool} {Ab Cb : Option Addr} {nb cb mb db : Nat} {rb : Int} {A2 C2 : Option Addr} {c2 d2 : Nat} {m2 : Nat} {A3 C3 : Option Addr} {c3 d3 : Nat} {g3 : Bool} {n3 : Nat} (w : World) (hva : Hid (Vld w (Value.agg #[.int .i64 ka, .int .i64 pa, .int .i64 qa, .bool ga, .slice Aa na ca, .slice Ca ma da, .int .i64 ra]) (Value.agg #[.int .i64 5, .int .i64 0, .int .i64 0, .bool false, .slice A2 0 c2, .slice C2 m2 d2, .int .i64 0]))) (hvb : Hid (Vld w (Value.agg #[.int .i64 kb, .int .i64 pb, .int .i64 qb, .bool gb, .slice Ab nb cb, .slice Cb mb db, .int .i64 rb]) (Value.agg #[.int .i64 4, .int .i64 0, .int .i64 0, .bool g3, .slice A3 n3 c3, .slice C3 0 d3, .int .i64 0]))) (b2 : Hid (nothB 5 = false)) (b3 : Hid (nothB 4 = false)) : Calls Tryz.prog 27 #[Value.agg #[.int .i64 ka, .int .i64 pa, .int .i64 qa, .bool ga, .slice Aa na ca, .slice Ca ma da, .int .i64 ra], Value.agg #[.int .i64 kb, .int .i64 pb, .int .i64 qb, .bool gb, .slice Ab nb cb, .slice Cb mb db, .int .i64 rb]] w fun e w' => e = .returned (.tuple #[.bool false, .int .i64 3]) ∧ Plus w w' := by
  go_enter Tryz.func27, Tryz.ntmps27
  go_upto_region 1 with fail
  go_cut [] (fun wx => Plus ((w.alloc (.cells #[.int .i64 5, .int .i64 0, .int .i64 0, .bool false, .slice A2 0 c2, .slice C2 m2 d2, .int .i64 0] 29)).alloc (.cells #[.int .i64 4, .int .i64 0, .int .i64 0, .bool g3, .slice A3 n3 c3, .slice C3 0 d3, .int .i64 0] 29)) wx)
  case first =>
    go_region_with (first | (go_at_call_of 43 (Value.agg #[.int .i64 ka, .int .i64 pa, .int .i64 qa, .bool ga, .slice Aa na ca, .slice Ca ma da, .int .i64 ra]); (with_reducible refine (Vld.call hva.out (by repeat' (first | exact Plus.refl _ | refine Plus.alloc ?_ _ | refine Plus.plus ?_ _ | refine Plus.drew ?_ | refine Plus.drewN ?_ _))).mono ?_); rintro e w1 ⟨rfl, ⟨y1, rfl⟩⟩) | (go_at_call_of 43 (Value.agg #[.int .i64 kb, .int .i64 pb, .int .i64 qb, .bool gb, .slice Ab nb cb, .slice Cb mb db, .int .i64 rb]); (with_reducible refine (Vld.call hvb.out (by repeat' (first | exact Plus.refl _ | refine Plus.alloc ?_ _ | refine Plus.plus ?_ _ | refine Plus.drew ?_ | refine Plus.drewN ?_ _))).mono ?_); rintro e w1 ⟨rfl, ⟨y2, rfl⟩⟩))
    all_goals
      go_wp2_with fail
      go_meet
      exact (by repeat' (first | exact Plus.refl _ | refine Plus.alloc ?_ _ | refine Plus.plus ?_ _ | refine Plus.drew ?_ | refine Plus.drewN ?_ _))
  case rest =>
    obtain ⟨x1, rfl⟩ := hcut
    go_upto_region 6 with (first | (go_at_call_of 69 (Value.agg #[.int .i64 5, .int .i64 0, .int .i64 0, .bool false, .slice A2 0 c2, .slice C2 m2 d2, .int .i64 0]); (with_reducible refine (noth_v b2 _).mono ?_); rintro e w2 ⟨rfl, ⟨x3, rfl⟩⟩) | (go_at_call_of 69 (Value.agg #[.int .i64 4, .int .i64 0, .int .i64 0, .bool g3, .slice A3 n3 c3, .slice C3 0 d3, .int .i64 0]); (with_reducible refine (noth_v b3 _).mono ?_); rintro e w2 ⟨rfl, ⟨x3, rfl⟩⟩))
    go_cut [] (fun wx => Plus ((w.alloc (.cells #[.int .i64 5, .int .i64 0, .int .i64 0, .bool false, .slice A2 0 c2, .slice C2 m2 d2, .int .i64 0] 29)).alloc (.cells #[.int .i64 4, .int .i64 0, .int .i64 0, .bool g3, .slice A3 n3 c3, .slice C3 0 d3, .int .i64 0] 29)) wx)
    case first =>
      go_region_with (first | (go_at_call_of 70 (Value.agg #[.int .i64 5, .int .i64 0, .int .i64 0, .bool false, .slice A2 0 c2, .slice C2 m2 d2, .int .i64 0]); (with_reducible refine (wob_o _ (by decide)).mono ?_); rintro e w1 ⟨rfl, ⟨y1, rfl⟩⟩) | (go_at_call_of 70 (Value.agg #[.int .i64 4, .int .i64 0, .int .i64 0, .bool g3, .slice A3 n3 c3, .slice C3 0 d3, .int .i64 0]); (with_reducible refine (wob_o _ (by decide)).mono ?_); rintro e w1 ⟨rfl, ⟨y2, rfl⟩⟩))
      all_goals
        go_wp2_with fail
        go_meet
        exact (by repeat' (first | exact Plus.refl _ | refine Plus.alloc ?_ _ | refine Plus.plus ?_ _ | refine Plus.drew ?_ | refine Plus.drewN ?_ _))
    case rest =>
      obtain ⟨x6, rfl⟩ := hcut
      go_wp2_with fail
      go_returns
      exact ⟨rfl, (by repeat' (first | exact Plus.refl _ | refine Plus.alloc ?_ _ | refine Plus.plus ?_ _ | refine Plus.drew ?_ | refine Plus.drewN ?_ _))⟩
set_option maxRecDepth 100000 in
set_option maxHeartbeats 4000000 in
theorem loose_56 {ka pa qa : Int} {ga : Bool} {Aa Ca : Option Addr} {na ca ma da : Nat} {ra : Int} {kb pb qb : Int} {gb : Bool} {Ab Cb : Option Addr} {nb cb mb db : Nat} {rb : Int} {A2 C2 : Option Addr} {c2 d2 : Nat} {m2 : Nat} {A3 C3 : Option Addr} {c3 d3 : Nat} {r3 : Int} (w : World) (hva : Hid (Vld w (Value.agg #[.int .i64 ka, .int .i64 pa, .int .i64 qa, .bool ga, .slice Aa na ca, .slice Ca ma da, .int .i64 ra]) (Value.agg #[.int .i64 5, .int .i64 0, .int .i64 0, .bool false, .slice A2 0 c2, .slice C2 m2 d2, .int .i64 0]))) (hvb : Hid (Vld w (Value.agg #[.int .i64 kb, .int .i64 pb, .int .i64 qb, .bool gb, .slice Ab nb cb, .slice Cb mb db, .int .i64 rb]) (Value.agg #[.int .i64 6, .int .i64 0, .int .i64 0, .bool false, .slice A3 0 c3, .slice C3 0 d3, .int .i64 r3]))) (b2 : Hid (nothB 5 = false)) (b3 : Hid (nothB 6 = false)) : Calls Tryz.prog 27 #[Value.agg #[.int .i64 ka, .int .i64 pa, .int .i64 qa, .bool ga, .slice Aa na ca, .slice Ca ma da, .int .i64 ra], Value.agg #[.int .i64 kb, .int .i64 pb, .int .i64 qb, .bool gb, .slice Ab nb cb, .slice Cb mb db, .int .i64 rb]] w fun e w' => e = .returned (.tuple #[.bool false, .int .i64 3]) ∧ Plus w w' := by
  go_enter Tryz.func27, Tryz.ntmps27
  go_upto_region 1 with fail
  go_cut [] (fun wx => Plus ((w.alloc (.cells #[.int .i64 5, .int .i64 0, .int .i64 0, .bool false, .slice A2 0 c2, .slice C2 m2 d2, .int .i64 0] 29)).alloc (.cells #[.int .i64 6, .int .i64 0, .int .i64 0, .bool false, .slice A3 0 c3, .slice C3 0 d3, .int .i64 r3] 29)) wx)
  case first =>
    go_region_with (first | (go_at_call_of 43 (Value.agg #[.int .i64 ka, .int .i64 pa, .int .i64 qa, .bool ga, .slice Aa na ca, .slice Ca ma da, .int .i64 ra]); (with_reducible refine (Vld.call hva.out (by repeat' (first | exact Plus.refl _ | refine Plus.alloc ?_ _ | refine Plus.plus ?_ _ | refine Plus.drew ?_ | refine Plus.drewN ?_ _))).mono ?_); rintro e w1 ⟨rfl, ⟨y1, rfl⟩⟩) | (go_at_call_of 43 (Value.agg #[.int .i64 kb, .int .i64 pb, .int .i64 qb, .bool gb, .slice Ab nb cb, .slice Cb mb db, .int .i64 rb]); (with_reducible refine (Vld.call hvb.out (by repeat' (first | exact Plus.refl _ | refine Plus.alloc ?_ _ | refine Plus.plus ?_ _ | refine Plus.drew ?_ | refine Plus.drewN ?_ _))).mono ?_); rintro e w1 ⟨rfl, ⟨y2, rfl⟩⟩))
    all_goals
      go_wp2_with fail
      go_meet
      exact (by repeat' (first | exact Plus.refl _ | refine Plus.alloc ?_ _ | refine Plus.plus ?_ _ | refine Plus.drew ?_ | refine Plus.drewN ?_ _))
  case rest =>
    obtain ⟨x1, rfl⟩ := hcut
    go_upto_region 6 with (first | (go_at_call_of 69 (Value.agg #[.int .i64 5, .int .i64 0, .int .i64 0, .bool false, .slice A2 0 c2, .slice C2 m2 d2, .int .i64 0]); (with_reducible refine (noth_v b2 _).mono ?_); rintro e w2 ⟨rfl, ⟨x3, rfl⟩⟩) | (go_at_call_of 69 (Value.agg #[.int .i64 6, .int .i64 0, .int .i64 0, .bool false, .slice A3 0 c3, .slice C3 0 d3, .int .i64 r3]); (with_reducible refine (noth_v b3 _).mono ?_); rintro e w2 ⟨rfl, ⟨x3, rfl⟩⟩))
    go_cut [] (fun wx => Plus ((w.alloc (.cells #[.int .i64 5, .int .i64 0, .int .i64 0, .bool false, .slice A2 0 c2, .slice C2 m2 d2, .int .i64 0] 29)).alloc (.cells #[.int .i64 6, .int .i64 0, .int .i64 0, .bool false, .slice A3 0 c3, .slice C3 0 d3, .int .i64 r3] 29)) wx)
    case first =>
      go_region_with (first | (go_at_call_of 70 (Value.agg #[.int .i64 5, .int .i64 0, .int .i64 0, .bool false, .slice A2 0 c2, .slice C2 m2 d2, .int .i64 0]); (with_reducible refine (wob_o _ (by decide)).mono ?_); rintro e w1 ⟨rfl, ⟨y1, rfl⟩⟩) | (go_at_call_of 70 (Value.agg #[.int .i64 6, .int .i64 0, .int .i64 0, .bool false, .slice A3 0 c3, .slice C3 0 d3, .int .i64 r3]); (with_reducible refine (wob_o _ (by decide)).mono ?_); rintro e w1 ⟨rfl, ⟨y2, rfl⟩⟩))
      all_goals
        go_wp2_with fail
        go_meet
        exact (by repeat' (first | exact Plus.refl _ | refine Plus.alloc ?_ _ | refine Plus.plus ?_ _ | refine Plus.drew ?_ | refine Plus.drewN ?_ _))
    case rest =>
      obtain ⟨x6, rfl⟩ := hcut
      go_wp2_with fail
      go_returns
      exact ⟨rfl, (by repeat' (first | exact Plus.refl _ | refine Plus.alloc ?_ _ | refine Plus.plus ?_ _ | refine Plus.drew ?_ | refine Plus.drewN ?_ _))⟩
end Go.Proofs.YtakahpbondaidaaGreatDoor
