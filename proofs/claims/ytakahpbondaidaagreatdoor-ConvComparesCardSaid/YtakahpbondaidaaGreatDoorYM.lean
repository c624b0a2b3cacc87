/- The document's Loose, by ways. -/
import Derived.Test.YtakahpbondaidaaGreatDoorYJ
namespace Go.Proofs.YtakahpbondaidaaGreatDoor
open Go.RowKit

set_option maxRecDepth 100000 in
set_option maxHeartbeats 4000000 in
theorem l9_Ae {y : JV} {ka pa qa : Int} {ga : Bool} {Aa Ca : Option Addr} {na ca ma da : Nat} {ra : Int} {kb pb qb : Int} {gb : Bool} {Ab Cb : Option Addr} {nb cb mb db : Nat} {rb : Int} {p2 q2 : Int} {g2 : Bool} {A2 C2 : Option Addr} {n2 c2 m2 d2 : Nat} {r2 : Int} {p3 q3 : Int} {g3 : Bool} {A3 C3 : Option Addr} {n3 c3 m3 d3 : Nat} {r3 : Int} (w : World) (hva : Hid (Vldg w (Value.agg #[.int .i64 ka, .int .i64 pa, .int .i64 qa, .bool ga, .slice Aa na ca, .slice Ca ma da, .int .i64 ra]) (Value.agg #[.int .i64 2, .int .i64 p2, .int .i64 q2, .bool g2, .slice A2 n2 c2, .slice C2 m2 d2, .int .i64 r2]))) (hvb : Hid (Vldg w (Value.agg #[.int .i64 kb, .int .i64 pb, .int .i64 qb, .bool gb, .slice Ab nb cb, .slice Cb mb db, .int .i64 rb]) (Value.agg #[.int .i64 3, .int .i64 p3, .int .i64 q3, .bool g3, .slice A3 n3 c3, .slice C3 m3 d3, .int .i64 r3]))) (hy : Hid (NV w (Value.agg #[.int .i64 3, .int .i64 p3, .int .i64 q3, .bool g3, .slice A3 n3 c3, .slice C3 m3 d3, .int .i64 r3]) y)) (hVV : Hid (IsV 0 r2)) {z : Bool} (hq : Hid (strictJ (.num 0 r2) y = z)) : Calls Tryz.prog 28 #[Value.agg #[.int .i64 ka, .int .i64 pa, .int .i64 qa, .bool ga, .slice Aa na ca, .slice Ca ma da, .int .i64 ra], Value.agg #[.int .i64 kb, .int .i64 pb, .int .i64 qb, .bool gb, .slice Ab nb cb, .slice Cb mb db, .int .i64 rb]] w fun e w' => e = .returned (.tuple #[.bool z, .int .i64 0]) ∧ Plus w w' := by
  go_enter Tryz.func28, Tryz.ntmps28
  go_upto_region 1 with fail
  go_cut [6, 7] (fun sa sb wx => ∃ b5 b6, sa = .pointer (some ⟨b5, 0, none⟩) ∧ sb = .pointer (some ⟨b6, 0, none⟩) ∧ Plus w wx ∧ BxO wx b5 #[.int .i64 2, .int .i64 p2, .int .i64 q2, .bool g2, .slice A2 n2 c2, .slice C2 m2 d2, .int .i64 r2] ∧ BxO wx b6 #[.int .i64 3, .int .i64 p3, .int .i64 q3, .bool g3, .slice A3 n3 c3, .slice C3 m3 d3, .int .i64 r3] ∧ b5 ≠ b6 ∧ w.heap.size ≤ b5 ∧ w.heap.size ≤ b6)
  case first =>
    go_region_held3 (fun w' => w'.cell? ⟨w.heap.size, 0, none⟩ = some (.int .i64 ka) ∧ w'.cell? ⟨w.heap.size, 1, none⟩ = some (.int .i64 pa) ∧ w'.cell? ⟨w.heap.size, 2, none⟩ = some (.int .i64 qa) ∧ w'.cell? ⟨w.heap.size, 3, none⟩ = some (.bool ga) ∧ w'.cell? ⟨w.heap.size, 4, none⟩ = some (.slice Aa na ca) ∧ w'.cell? ⟨w.heap.size, 5, none⟩ = some (.slice Ca ma da) ∧ w'.cell? ⟨w.heap.size, 6, none⟩ = some (.int .i64 ra) ∧ w'.cell? ⟨w.heap.size + 1, 0, none⟩ = some (.int .i64 kb) ∧ w'.cell? ⟨w.heap.size + 1, 1, none⟩ = some (.int .i64 pb) ∧ w'.cell? ⟨w.heap.size + 1, 2, none⟩ = some (.int .i64 qb) ∧ w'.cell? ⟨w.heap.size + 1, 3, none⟩ = some (.bool gb) ∧ w'.cell? ⟨w.heap.size + 1, 4, none⟩ = some (.slice Ab nb cb) ∧ w'.cell? ⟨w.heap.size + 1, 5, none⟩ = some (.slice Cb mb db) ∧ w'.cell? ⟨w.heap.size + 1, 6, none⟩ = some (.int .i64 rb)) (refine ⟨?_, ?_, ?_, ?_, ?_, ?_, ?_, ?_, ?_, ?_, ?_, ?_, ?_, ?_⟩ <;> simp [go_sem]) (first | (go_at_call_of 45 (Value.agg #[.int .i64 ka, .int .i64 pa, .int .i64 qa, .bool ga, .slice Aa na ca, .slice Ca ma da, .int .i64 ra]); (with_reducible refine (Vldg.call hva.out (by repeat' (first | exact Plus.refl _ | refine Plus.alloc ?_ _ | refine Plus.plus ?_ _ | refine Plus.drew ?_ | refine Plus.drewN ?_ _))).mono ?_); rintro e w1 ⟨rfl, ⟨x1, rfl⟩⟩) | (go_at_call_of 45 (Value.agg #[.int .i64 kb, .int .i64 pb, .int .i64 qb, .bool gb, .slice Ab nb cb, .slice Cb mb db, .int .i64 rb]); (with_reducible refine (Vldg.call hvb.out (by repeat' (first | exact Plus.refl _ | refine Plus.alloc ?_ _ | refine Plus.plus ?_ _ | refine Plus.drew ?_ | refine Plus.drewN ?_ _))).mono ?_); rintro e w1 ⟨rfl, ⟨y1, rfl⟩⟩))
    all_goals (go_wp2_with fail; go_meet; refine ⟨_, _, rfl, rfl, ?_, ?_, ?_, ?_, ?_, ?_⟩)
    all_goals first | ((repeat' (first | exact Plus.refl _ | refine Plus.alloc ?_ _ | refine Plus.plus ?_ _ | refine Plus.drew ?_ | refine Plus.drewN ?_ _)); done) | ((repeat' (first | (refine BxO.new' ?_; (simp [go_sem]; done)) | refine BxO.alloc ?_ _ | refine BxO.grow ?_ _ | refine BxO.drew ?_)); done) | omega | (simp [go_sem]; done) | (simp [go_sem]; omega)
  case rest =>
    obtain ⟨b5, b6, rfl, rfl, hPw, hB5, hB6, hne, hl5, hl6⟩ := hcut
    have HP := Lib.hid hPw
    obtain ⟨ka0, ka1, ka2, ka3, ka4, ka5, ka6⟩ := hB5.cells
    obtain ⟨la0, la1, la2, la3, la4, la5, la6⟩ := hB6.cells
    haveI : Old b5 wc := ⟨hB5.lt⟩
    haveI : Old b6 wc := ⟨hB6.lt⟩
    obtain ⟨kf0, kf1, kf2, kf3, kf4, kf5, kf6⟩ := hB5.fr
    have hNo : ∃ o, wc.heap[b5]? = some o ∧ NoU o := ⟨_, hB5, nuV _ _ _ _ _ _ _ _ _ _ _ _⟩
    go_upto_region 7 with fail
    go_cut [] (fun wy => Plus w wy ∧ BxO wy b5 #[.int .i64 3, .int .i64 0, .int .i64 r2, .bool false, .slice none 0 0, .slice none 0 0, .int .i64 0] ∧ BxO wy b6 #[.int .i64 3, .int .i64 p3, .int .i64 q3, .bool g3, .slice A3 n3 c3, .slice C3 m3 d3, .int .i64 r3] ∧ Offp wc wy)
    case first =>
      go_wp2_with (go_at_call 50; (with_reducible refine (ofn_c _).mono ?_); rintro e w1 ⟨rfl, ⟨x5, rfl⟩⟩)
      go_meet
      skip
      refine ⟨?_, ?_, ?_, ?_⟩
      · exact (Plus.set7 hPw hl5).plus x5
      · exact (BxO.set7 hB5).grow x5
      · exact (BxO.set7_ne hB6 hne).grow x5
      · exact (Offp.set7 (Offp.ofPlus (Plus.refl wc)) hNo).plusR x5
    case rest =>
      obtain ⟨hP2, hN5, hN6, hOff⟩ := hcut
      clear ka0 ka1 ka2 ka3 ka4 ka5 ka6 la0 la1 la2 la3 la4 la5 la6 kf0 kf1 kf2 kf3 kf4 kf5 kf6
      obtain ⟨ma0, ma1, ma2, ma3, ma4, ma5, ma6⟩ := BxO.cells hN5
      obtain ⟨oa0, oa1, oa2, oa3, oa4, oa5, oa6⟩ := BxO.cells hN6
      haveI : Old b5 wc := ⟨hN5.lt⟩
      haveI : Old b6 wc := ⟨hN6.lt⟩
      have HP2 := Lib.hid hP2
      have hO : Hid (NV wc (Value.agg #[.int .i64 3, .int .i64 p3, .int .i64 q3, .bool g3, .slice A3 n3 c3, .slice C3 m3 d3, .int .i64 r3]) y) := Lib.hid ((hy.out.plus HP.out).offs hOff)
      clear hP2 hN5 hN6 hOff
      go_wp2_with (go_at_call 30; (with_reducible refine (strict9_v hq _ (nv_num _ hVV.out) (hO.out.plus (by repeat' (first | exact Plus.refl _ | refine Plus.alloc ?_ _ | refine Plus.plus ?_ _ | refine Plus.drew ?_ | refine Plus.drewN ?_ _))) (nv_num _ hVV.out).vldg (hO.out.plus (by repeat' (first | exact Plus.refl _ | refine Plus.alloc ?_ _ | refine Plus.plus ?_ _ | refine Plus.drew ?_ | refine Plus.drewN ?_ _))).vldg).mono ?_); rintro e w1 ⟨rfl, ⟨x9, rfl⟩⟩)
      go_returns
      exact ⟨rfl, HP2.out.trans (by repeat' (first | exact Plus.refl _ | refine Plus.alloc ?_ _ | refine Plus.plus ?_ _ | refine Plus.drew ?_ | refine Plus.drewN ?_ _))⟩
set_option maxRecDepth 100000 in
set_option maxHeartbeats 4000000 in
theorem l9_Ao {y : JV} {ka pa qa : Int} {ga : Bool} {Aa Ca : Option Addr} {na ca ma da : Nat} {ra : Int} {kb pb qb : Int} {gb : Bool} {Ab Cb : Option Addr} {nb cb mb db : Nat} {rb : Int} {p2 q2 : Int} {g2 : Bool} {A2 C2 : Option Addr} {n2 c2 m2 d2 : Nat} {r2 : Int} {k3 p3 q3 : Int} {g3 : Bool} {A3 C3 : Option Addr} {n3 c3 m3 d3 : Nat} {r3 : Int} (w : World) (hva : Hid (Vldg w (Value.agg #[.int .i64 ka, .int .i64 pa, .int .i64 qa, .bool ga, .slice Aa na ca, .slice Ca ma da, .int .i64 ra]) (Value.agg #[.int .i64 2, .int .i64 p2, .int .i64 q2, .bool g2, .slice A2 n2 c2, .slice C2 m2 d2, .int .i64 r2]))) (hvb : Hid (Vldg w (Value.agg #[.int .i64 kb, .int .i64 pb, .int .i64 qb, .bool gb, .slice Ab nb cb, .slice Cb mb db, .int .i64 rb]) (Value.agg #[.int .i64 k3, .int .i64 p3, .int .i64 q3, .bool g3, .slice A3 n3 c3, .slice C3 m3 d3, .int .i64 r3]))) (hy : Hid (NV w (Value.agg #[.int .i64 k3, .int .i64 p3, .int .i64 q3, .bool g3, .slice A3 n3 c3, .slice C3 m3 d3, .int .i64 r3]) y)) (b0 : ((2 : Int) == k3) = false) (le3 : decide (k3 ≤ 1) = false) (_f3 : (k3 == 3) = false) (f32 : ((3 : Int) == k3) = false) (f2 : (k3 == 2) = false) (f6 : (k3 == 6) = true) : Calls Tryz.prog 28 #[Value.agg #[.int .i64 ka, .int .i64 pa, .int .i64 qa, .bool ga, .slice Aa na ca, .slice Ca ma da, .int .i64 ra], Value.agg #[.int .i64 kb, .int .i64 pb, .int .i64 qb, .bool gb, .slice Ab nb cb, .slice Cb mb db, .int .i64 rb]] w fun e w' => e = .returned (.tuple #[.bool false, .int .i64 3]) ∧ Plus w w' := by
  go_enter Tryz.func28, Tryz.ntmps28
  go_upto_region 1 with fail
  go_cut [6, 7] (fun sa sb wx => ∃ b5 b6, sa = .pointer (some ⟨b5, 0, none⟩) ∧ sb = .pointer (some ⟨b6, 0, none⟩) ∧ Plus w wx ∧ BxO wx b5 #[.int .i64 2, .int .i64 p2, .int .i64 q2, .bool g2, .slice A2 n2 c2, .slice C2 m2 d2, .int .i64 r2] ∧ BxO wx b6 #[.int .i64 k3, .int .i64 p3, .int .i64 q3, .bool g3, .slice A3 n3 c3, .slice C3 m3 d3, .int .i64 r3] ∧ b5 ≠ b6 ∧ w.heap.size ≤ b5 ∧ w.heap.size ≤ b6)
  case first =>
    go_region_held3 (fun w' => w'.cell? ⟨w.heap.size, 0, none⟩ = some (.int .i64 ka) ∧ w'.cell? ⟨w.heap.size, 1, none⟩ = some (.int .i64 pa) ∧ w'.cell? ⟨w.heap.size, 2, none⟩ = some (.int .i64 qa) ∧ w'.cell? ⟨w.heap.size, 3, none⟩ = some (.bool ga) ∧ w'.cell? ⟨w.heap.size, 4, none⟩ = some (.slice Aa na ca) ∧ w'.cell? ⟨w.heap.size, 5, none⟩ = some (.slice Ca ma da) ∧ w'.cell? ⟨w.heap.size, 6, none⟩ = some (.int .i64 ra) ∧ w'.cell? ⟨w.heap.size + 1, 0, none⟩ = some (.int .i64 kb) ∧ w'.cell? ⟨w.heap.size + 1, 1, none⟩ = some (.int .i64 pb) ∧ w'.cell? ⟨w.heap.size + 1, 2, none⟩ = some (.int .i64 qb) ∧ w'.cell? ⟨w.heap.size + 1, 3, none⟩ = some (.bool gb) ∧ w'.cell? ⟨w.heap.size + 1, 4, none⟩ = some (.slice Ab nb cb) ∧ w'.cell? ⟨w.heap.size + 1, 5, none⟩ = some (.slice Cb mb db) ∧ w'.cell? ⟨w.heap.size + 1, 6, none⟩ = some (.int .i64 rb)) (refine ⟨?_, ?_, ?_, ?_, ?_, ?_, ?_, ?_, ?_, ?_, ?_, ?_, ?_, ?_⟩ <;> simp [go_sem]) (first | (go_at_call_of 45 (Value.agg #[.int .i64 ka, .int .i64 pa, .int .i64 qa, .bool ga, .slice Aa na ca, .slice Ca ma da, .int .i64 ra]); (with_reducible refine (Vldg.call hva.out (by repeat' (first | exact Plus.refl _ | refine Plus.alloc ?_ _ | refine Plus.plus ?_ _ | refine Plus.drew ?_ | refine Plus.drewN ?_ _))).mono ?_); rintro e w1 ⟨rfl, ⟨x1, rfl⟩⟩) | (go_at_call_of 45 (Value.agg #[.int .i64 kb, .int .i64 pb, .int .i64 qb, .bool gb, .slice Ab nb cb, .slice Cb mb db, .int .i64 rb]); (with_reducible refine (Vldg.call hvb.out (by repeat' (first | exact Plus.refl _ | refine Plus.alloc ?_ _ | refine Plus.plus ?_ _ | refine Plus.drew ?_ | refine Plus.drewN ?_ _))).mono ?_); rintro e w1 ⟨rfl, ⟨y1, rfl⟩⟩))
    all_goals (go_wp2_with fail; go_meet; refine ⟨_, _, rfl, rfl, ?_, ?_, ?_, ?_, ?_, ?_⟩)
    all_goals first | ((repeat' (first | exact Plus.refl _ | refine Plus.alloc ?_ _ | refine Plus.plus ?_ _ | refine Plus.drew ?_ | refine Plus.drewN ?_ _)); done) | ((repeat' (first | (refine BxO.new' ?_; (simp [go_sem]; done)) | refine BxO.alloc ?_ _ | refine BxO.grow ?_ _ | refine BxO.drew ?_)); done) | omega | (simp [go_sem]; done) | (simp [go_sem]; omega)
  case rest =>
    obtain ⟨b5, b6, rfl, rfl, hPw, hB5, hB6, hne, hl5, hl6⟩ := hcut
    have HP := Lib.hid hPw
    obtain ⟨ka0, ka1, ka2, ka3, ka4, ka5, ka6⟩ := hB5.cells
    obtain ⟨la0, la1, la2, la3, la4, la5, la6⟩ := hB6.cells
    haveI : Old b5 wc := ⟨hB5.lt⟩
    haveI : Old b6 wc := ⟨hB6.lt⟩
    obtain ⟨kf0, kf1, kf2, kf3, kf4, kf5, kf6⟩ := hB5.fr
    have hNo : ∃ o, wc.heap[b5]? = some o ∧ NoU o := ⟨_, hB5, nuV _ _ _ _ _ _ _ _ _ _ _ _⟩
    go_upto_region 7 with fail
    go_cut [] (fun wy => Plus w wy ∧ BxO wy b5 #[.int .i64 3, .int .i64 0, .int .i64 r2, .bool false, .slice none 0 0, .slice none 0 0, .int .i64 0] ∧ BxO wy b6 #[.int .i64 k3, .int .i64 p3, .int .i64 q3, .bool g3, .slice A3 n3 c3, .slice C3 m3 d3, .int .i64 r3] ∧ Offp wc wy)
    case first =>
      go_wp2_with (go_at_call 50; (with_reducible refine (ofn_c _).mono ?_); rintro e w1 ⟨rfl, ⟨x5, rfl⟩⟩)
      go_meet
      skip
      refine ⟨?_, ?_, ?_, ?_⟩
      · exact (Plus.set7 hPw hl5).plus x5
      · exact (BxO.set7 hB5).grow x5
      · exact (BxO.set7_ne hB6 hne).grow x5
      · exact (Offp.set7 (Offp.ofPlus (Plus.refl wc)) hNo).plusR x5
    case rest =>
      obtain ⟨hP2, hN5, hN6, hOff⟩ := hcut
      clear ka0 ka1 ka2 ka3 ka4 ka5 ka6 la0 la1 la2 la3 la4 la5 la6 kf0 kf1 kf2 kf3 kf4 kf5 kf6
      obtain ⟨ma0, ma1, ma2, ma3, ma4, ma5, ma6⟩ := BxO.cells hN5
      obtain ⟨oa0, oa1, oa2, oa3, oa4, oa5, oa6⟩ := BxO.cells hN6
      haveI : Old b5 wc := ⟨hN5.lt⟩
      haveI : Old b6 wc := ⟨hN6.lt⟩
      have HP2 := Lib.hid hP2
      have hO : Hid (NV wc (Value.agg #[.int .i64 k3, .int .i64 p3, .int .i64 q3, .bool g3, .slice A3 n3 c3, .slice C3 m3 d3, .int .i64 r3]) y) := Lib.hid ((hy.out.plus HP.out).offs hOff)
      clear hP2 hN5 hN6 hOff
      go_wp2_with fail
      go_returns
      exact ⟨rfl, HP2.out.trans (by repeat' (first | exact Plus.refl _ | refine Plus.alloc ?_ _ | refine Plus.plus ?_ _ | refine Plus.drew ?_ | refine Plus.drewN ?_ _))⟩
set_option maxRecDepth 100000 in
set_option maxHeartbeats 4000000 in
theorem l9_Ab {y : JV} {ka pa qa : Int} {ga : Bool} {Aa Ca : Option Addr} {na ca ma da : Nat} {ra : Int} {kb pb qb : Int} {gb : Bool} {Ab Cb : Option Addr} {nb cb mb db : Nat} {rb : Int} {p2 q2 : Int} {g2 : Bool} {A2 C2 : Option Addr} {n2 c2 m2 d2 : Nat} {r2 : Int} {k3 p3 q3 : Int} {g3 : Bool} {A3 C3 : Option Addr} {n3 c3 m3 d3 : Nat} {r3 : Int} (w : World) (hva : Hid (Vldg w (Value.agg #[.int .i64 ka, .int .i64 pa, .int .i64 qa, .bool ga, .slice Aa na ca, .slice Ca ma da, .int .i64 ra]) (Value.agg #[.int .i64 2, .int .i64 p2, .int .i64 q2, .bool g2, .slice A2 n2 c2, .slice C2 m2 d2, .int .i64 r2]))) (hvb : Hid (Vldg w (Value.agg #[.int .i64 kb, .int .i64 pb, .int .i64 qb, .bool gb, .slice Ab nb cb, .slice Cb mb db, .int .i64 rb]) (Value.agg #[.int .i64 k3, .int .i64 p3, .int .i64 q3, .bool g3, .slice A3 n3 c3, .slice C3 m3 d3, .int .i64 r3]))) (hy : Hid (NV w (Value.agg #[.int .i64 k3, .int .i64 p3, .int .i64 q3, .bool g3, .slice A3 n3 c3, .slice C3 m3 d3, .int .i64 r3]) y)) (b0 : ((2 : Int) == k3) = false) (le3 : decide (k3 ≤ 1) = false) (_f3 : (k3 == 3) = false) (f32 : ((3 : Int) == k3) = false) (f2 : (k3 == 2) = false) (f6 : (k3 == 6) = false) (hVV : Hid (IsV 0 r2)) {z : Bool} {s : Int} (hJ : Hid (looseN (.num 0 r2) y = ⟨z, s⟩)) (hbk : besK (.num 0 r2) y = true) : Calls Tryz.prog 28 #[Value.agg #[.int .i64 ka, .int .i64 pa, .int .i64 qa, .bool ga, .slice Aa na ca, .slice Ca ma da, .int .i64 ra], Value.agg #[.int .i64 kb, .int .i64 pb, .int .i64 qb, .bool gb, .slice Ab nb cb, .slice Cb mb db, .int .i64 rb]] w fun e w' => e = .returned (.tuple #[.bool z, .int .i64 s]) ∧ Plus w w' := by
  go_enter Tryz.func28, Tryz.ntmps28
  go_upto_region 1 with fail
  go_cut [6, 7] (fun sa sb wx => ∃ b5 b6, sa = .pointer (some ⟨b5, 0, none⟩) ∧ sb = .pointer (some ⟨b6, 0, none⟩) ∧ Plus w wx ∧ BxO wx b5 #[.int .i64 2, .int .i64 p2, .int .i64 q2, .bool g2, .slice A2 n2 c2, .slice C2 m2 d2, .int .i64 r2] ∧ BxO wx b6 #[.int .i64 k3, .int .i64 p3, .int .i64 q3, .bool g3, .slice A3 n3 c3, .slice C3 m3 d3, .int .i64 r3] ∧ b5 ≠ b6 ∧ w.heap.size ≤ b5 ∧ w.heap.size ≤ b6)
  case first =>
    go_region_held3 (fun w' => w'.cell? ⟨w.heap.size, 0, none⟩ = some (.int .i64 ka) ∧ w'.cell? ⟨w.heap.size, 1, none⟩ = some (.int .i64 pa) ∧ w'.cell? ⟨w.heap.size, 2, none⟩ = some (.int .i64 qa) ∧ w'.cell? ⟨w.heap.size, 3, none⟩ = some (.bool ga) ∧ w'.cell? ⟨w.heap.size, 4, none⟩ = some (.slice Aa na ca) ∧ w'.cell? ⟨w.heap.size, 5, none⟩ = some (.slice Ca ma da) ∧ w'.cell? ⟨w.heap.size, 6, none⟩ = some (.int .i64 ra) ∧ w'.cell? ⟨w.heap.size + 1, 0, none⟩ = some (.int .i64 kb) ∧ w'.cell? ⟨w.heap.size + 1, 1, none⟩ = some (.int .i64 pb) ∧ w'.cell? ⟨w.heap.size + 1, 2, none⟩ = some (.int .i64 qb) ∧ w'.cell? ⟨w.heap.size + 1, 3, none⟩ = some (.bool gb) ∧ w'.cell? ⟨w.heap.size + 1, 4, none⟩ = some (.slice Ab nb cb) ∧ w'.cell? ⟨w.heap.size + 1, 5, none⟩ = some (.slice Cb mb db) ∧ w'.cell? ⟨w.heap.size + 1, 6, none⟩ = some (.int .i64 rb)) (refine ⟨?_, ?_, ?_, ?_, ?_, ?_, ?_, ?_, ?_, ?_, ?_, ?_, ?_, ?_⟩ <;> simp [go_sem]) (first | (go_at_call_of 45 (Value.agg #[.int .i64 ka, .int .i64 pa, .int .i64 qa, .bool ga, .slice Aa na ca, .slice Ca ma da, .int .i64 ra]); (with_reducible refine (Vldg.call hva.out (by repeat' (first | exact Plus.refl _ | refine Plus.alloc ?_ _ | refine Plus.plus ?_ _ | refine Plus.drew ?_ | refine Plus.drewN ?_ _))).mono ?_); rintro e w1 ⟨rfl, ⟨x1, rfl⟩⟩) | (go_at_call_of 45 (Value.agg #[.int .i64 kb, .int .i64 pb, .int .i64 qb, .bool gb, .slice Ab nb cb, .slice Cb mb db, .int .i64 rb]); (with_reducible refine (Vldg.call hvb.out (by repeat' (first | exact Plus.refl _ | refine Plus.alloc ?_ _ | refine Plus.plus ?_ _ | refine Plus.drew ?_ | refine Plus.drewN ?_ _))).mono ?_); rintro e w1 ⟨rfl, ⟨y1, rfl⟩⟩))
    all_goals (go_wp2_with fail; go_meet; refine ⟨_, _, rfl, rfl, ?_, ?_, ?_, ?_, ?_, ?_⟩)
    all_goals first | ((repeat' (first | exact Plus.refl _ | refine Plus.alloc ?_ _ | refine Plus.plus ?_ _ | refine Plus.drew ?_ | refine Plus.drewN ?_ _)); done) | ((repeat' (first | (refine BxO.new' ?_; (simp [go_sem]; done)) | refine BxO.alloc ?_ _ | refine BxO.grow ?_ _ | refine BxO.drew ?_)); done) | omega | (simp [go_sem]; done) | (simp [go_sem]; omega)
  case rest =>
    obtain ⟨b5, b6, rfl, rfl, hPw, hB5, hB6, hne, hl5, hl6⟩ := hcut
    have HP := Lib.hid hPw
    obtain ⟨ka0, ka1, ka2, ka3, ka4, ka5, ka6⟩ := hB5.cells
    obtain ⟨la0, la1, la2, la3, la4, la5, la6⟩ := hB6.cells
    haveI : Old b5 wc := ⟨hB5.lt⟩
    haveI : Old b6 wc := ⟨hB6.lt⟩
    obtain ⟨kf0, kf1, kf2, kf3, kf4, kf5, kf6⟩ := hB5.fr
    have hNo : ∃ o, wc.heap[b5]? = some o ∧ NoU o := ⟨_, hB5, nuV _ _ _ _ _ _ _ _ _ _ _ _⟩
    go_upto_region 7 with fail
    go_cut [] (fun wy => Plus w wy ∧ BxO wy b5 #[.int .i64 3, .int .i64 0, .int .i64 r2, .bool false, .slice none 0 0, .slice none 0 0, .int .i64 0] ∧ BxO wy b6 #[.int .i64 k3, .int .i64 p3, .int .i64 q3, .bool g3, .slice A3 n3 c3, .slice C3 m3 d3, .int .i64 r3] ∧ Offp wc wy)
    case first =>
      go_wp2_with (go_at_call 50; (with_reducible refine (ofn_c _).mono ?_); rintro e w1 ⟨rfl, ⟨x5, rfl⟩⟩)
      go_meet
      skip
      refine ⟨?_, ?_, ?_, ?_⟩
      · exact (Plus.set7 hPw hl5).plus x5
      · exact (BxO.set7 hB5).grow x5
      · exact (BxO.set7_ne hB6 hne).grow x5
      · exact (Offp.set7 (Offp.ofPlus (Plus.refl wc)) hNo).plusR x5
    case rest =>
      obtain ⟨hP2, hN5, hN6, hOff⟩ := hcut
      clear ka0 ka1 ka2 ka3 ka4 ka5 ka6 la0 la1 la2 la3 la4 la5 la6 kf0 kf1 kf2 kf3 kf4 kf5 kf6
      obtain ⟨ma0, ma1, ma2, ma3, ma4, ma5, ma6⟩ := BxO.cells hN5
      obtain ⟨oa0, oa1, oa2, oa3, oa4, oa5, oa6⟩ := BxO.cells hN6
      haveI : Old b5 wc := ⟨hN5.lt⟩
      haveI : Old b6 wc := ⟨hN6.lt⟩
      have HP2 := Lib.hid hP2
      have hO : Hid (NV wc (Value.agg #[.int .i64 k3, .int .i64 p3, .int .i64 q3, .bool g3, .slice A3 n3 c3, .slice C3 m3 d3, .int .i64 r3]) y) := Lib.hid ((hy.out.plus HP.out).offs hOff)
      clear hP2 hN5 hN6 hOff
      go_wp2_with (go_at_call 73; (with_reducible refine (bes9_v hJ hbk _ (nv_num _ hVV.out) (hO.out.plus (by repeat' (first | exact Plus.refl _ | refine Plus.alloc ?_ _ | refine Plus.plus ?_ _ | refine Plus.drew ?_ | refine Plus.drewN ?_ _)))).mono ?_); rintro e w1 ⟨rfl, ⟨x9, rfl⟩⟩)
      go_returns
      exact ⟨rfl, HP2.out.trans (by repeat' (first | exact Plus.refl _ | refine Plus.alloc ?_ _ | refine Plus.plus ?_ _ | refine Plus.drew ?_ | refine Plus.drewN ?_ _))⟩
end Go.Proofs.YtakahpbondaidaaGreatDoor
