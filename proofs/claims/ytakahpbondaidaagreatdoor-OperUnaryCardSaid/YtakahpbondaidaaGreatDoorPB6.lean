/- A box that holds a value. -/
import Derived.Test.YtakahpbondaidaaGreatDoorPZN
import Derived.Test.YtakahpbondaidaaGreatDoorPZR
namespace Go.Proofs.YtakahpbondaidaaGreatDoor
open Go.RowKit

/-- The box b holds the valid value x. -/
def BoxV (W : World) (b : Nat) (x : JV) : Prop := ∃ (k p q : Int) (g : Bool) (A C : Option Addr) (n c m d : Nat) (r : Int), (W.cell? ⟨b, 0, none⟩ = some (.int .i64 k) ∧ W.cell? ⟨b, 1, none⟩ = some (.int .i64 p) ∧ W.cell? ⟨b, 2, none⟩ = some (.int .i64 q) ∧ W.cell? ⟨b, 3, none⟩ = some (.bool g) ∧ W.cell? ⟨b, 4, none⟩ = some (.slice A n c) ∧ W.cell? ⟨b, 5, none⟩ = some (.slice C m d) ∧ W.cell? ⟨b, 6, none⟩ = some (.int .i64 r)) ∧ NV W (Value.agg #[.int .i64 k, .int .i64 p, .int .i64 q, .bool g, .slice A n c, .slice C m d, .int .i64 r]) x
theorem BoxV.plus {W W' : World} {b : Nat} {x : JV} (h : BoxV W b x) (hp : Plus W W') : BoxV W' b x := by
  obtain ⟨k, p, q, g, A, C, n, c, m, d, r, ⟨h0, h1, h2, h3, h4, h5, h6⟩, hn⟩ := h
  exact ⟨k, p, q, g, A, C, n, c, m, d, r, ⟨cell_plus h0 hp, cell_plus h1 hp, cell_plus h2 hp, cell_plus h3 hp, cell_plus h4 hp, cell_plus h5 hp, cell_plus h6 hp⟩, hn.plus hp⟩
theorem BoxV.lt {W : World} {b : Nat} {x : JV} (h : BoxV W b x) : b < W.heap.size := by
  obtain ⟨k, p, q, g, A, C, n, c, m, d, r, ⟨h0, _⟩, _⟩ := h
  exact World.block_lt_of_cell? _ _ h0
end Go.Proofs.YtakahpbondaidaaGreatDoor
namespace Go.Proofs.YtakahpbondaidaaGreatDoor
open Go.RowKit

set_option maxRecDepth 100000 in
set_option maxHeartbeats 4000000 in
theorem few3_n1 {op : ByteArray} {ka pa qa : Int} {ga : Bool} {Aa Ca : Option Addr} {na ca ma da : Nat} {ra : Int} {kb pb qb : Int} {gb : Bool} {Ab Cb : Option Addr} {nb cb mb db : Nat} {rb : Int} (w : World) (h1 : ¬ (op.size ≤ 100)) : Calls Tryz.prog 32 #[.string op, Value.agg #[.int .i64 ka, .int .i64 pa, .int .i64 qa, .bool ga, .slice Aa na ca, .slice Ca ma da, .int .i64 ra], Value.agg #[.int .i64 kb, .int .i64 pb, .int .i64 qb, .bool gb, .slice Ab nb cb, .slice Cb mb db, .int .i64 rb]] w (fun e w' => e = .returned (.bool false) ∧ Plus w w') := by
  go_enter Tryz.func32, Tryz.ntmps32
  go_wp2_with fail
  go_returns
  exact ⟨rfl, (by repeat' (first | exact Plus.refl _ | refine Plus.alloc ?_ _ | refine Plus.plus ?_ _ | refine Plus.drew ?_ | refine Plus.drewN ?_ _))⟩
set_option maxRecDepth 100000 in
set_option maxHeartbeats 4000000 in
theorem few3_n2 {op : ByteArray} {ka pa qa : Int} {ga : Bool} {Aa Ca : Option Addr} {na ca ma da : Nat} {ra : Int} {kb pb qb : Int} {gb : Bool} {Ab Cb : Option Addr} {nb cb mb db : Nat} {rb : Int} (w : World) (h1 : op.size ≤ 100) (h2 : Hid (fewB ma na = false)) : Calls Tryz.prog 32 #[.string op, Value.agg #[.int .i64 ka, .int .i64 pa, .int .i64 qa, .bool ga, .slice Aa na ca, .slice Ca ma da, .int .i64 ra], Value.agg #[.int .i64 kb, .int .i64 pb, .int .i64 qb, .bool gb, .slice Ab nb cb, .slice Cb mb db, .int .i64 rb]] w (fun e w' => e = .returned (.bool false) ∧ Plus w w') := by
  go_enter Tryz.func32, Tryz.ntmps32
  go_wp2_with (go_at_call_of 7 (Value.agg #[.int .i64 ka, .int .i64 pa, .int .i64 qa, .bool ga, .slice Aa na ca, .slice Ca ma da, .int .i64 ra]); (with_reducible refine (few_v h2 _).mono ?_); rintro e w1 ⟨rfl, ⟨xa, rfl⟩⟩)
  go_returns
  exact ⟨rfl, (by repeat' (first | exact Plus.refl _ | refine Plus.alloc ?_ _ | refine Plus.plus ?_ _ | refine Plus.drew ?_ | refine Plus.drewN ?_ _))⟩
set_option maxRecDepth 100000 in
set_option maxHeartbeats 4000000 in
theorem few3_n3 {op : ByteArray} {ka pa qa : Int} {ga : Bool} {Aa Ca : Option Addr} {na ca ma da : Nat} {ra : Int} {kb pb qb : Int} {gb : Bool} {Ab Cb : Option Addr} {nb cb mb db : Nat} {rb : Int} (w : World) (h1 : op.size ≤ 100) (h2 : Hid (fewB ma na = true)) (h3 : Hid (fewB mb nb = false)) : Calls Tryz.prog 32 #[.string op, Value.agg #[.int .i64 ka, .int .i64 pa, .int .i64 qa, .bool ga, .slice Aa na ca, .slice Ca ma da, .int .i64 ra], Value.agg #[.int .i64 kb, .int .i64 pb, .int .i64 qb, .bool gb, .slice Ab nb cb, .slice Cb mb db, .int .i64 rb]] w (fun e w' => e = .returned (.bool false) ∧ Plus w w') := by
  go_enter Tryz.func32, Tryz.ntmps32
  go_wp2_with (first | (go_at_call_of 7 (Value.agg #[.int .i64 ka, .int .i64 pa, .int .i64 qa, .bool ga, .slice Aa na ca, .slice Ca ma da, .int .i64 ra]); (with_reducible refine (few_v h2 _).mono ?_); rintro e w1 ⟨rfl, ⟨xa, rfl⟩⟩) | (go_at_call_of 7 (Value.agg #[.int .i64 kb, .int .i64 pb, .int .i64 qb, .bool gb, .slice Ab nb cb, .slice Cb mb db, .int .i64 rb]); (with_reducible refine (few_v h3 _).mono ?_); rintro e w1 ⟨rfl, ⟨xb, rfl⟩⟩))
  go_returns
  exact ⟨rfl, (by repeat' (first | exact Plus.refl _ | refine Plus.alloc ?_ _ | refine Plus.plus ?_ _ | refine Plus.drew ?_ | refine Plus.drewN ?_ _))⟩
set_option maxRecDepth 100000 in
set_option maxHeartbeats 4000000 in
theorem few3_y {op : ByteArray} {ka pa qa : Int} {ga : Bool} {Aa Ca : Option Addr} {na ca ma da : Nat} {ra : Int} {kb pb qb : Int} {gb : Bool} {Ab Cb : Option Addr} {nb cb mb db : Nat} {rb : Int} (w : World) (h1 : op.size ≤ 100) (h2 : Hid (fewB ma na = true)) (h3 : Hid (fewB mb nb = true)) : Calls Tryz.prog 32 #[.string op, Value.agg #[.int .i64 ka, .int .i64 pa, .int .i64 qa, .bool ga, .slice Aa na ca, .slice Ca ma da, .int .i64 ra], Value.agg #[.int .i64 kb, .int .i64 pb, .int .i64 qb, .bool gb, .slice Ab nb cb, .slice Cb mb db, .int .i64 rb]] w (fun e w' => e = .returned (.bool true) ∧ Plus w w') := by
  go_enter Tryz.func32, Tryz.ntmps32
  go_wp2_with (first | (go_at_call_of 7 (Value.agg #[.int .i64 ka, .int .i64 pa, .int .i64 qa, .bool ga, .slice Aa na ca, .slice Ca ma da, .int .i64 ra]); (with_reducible refine (few_v h2 _).mono ?_); rintro e w1 ⟨rfl, ⟨xa, rfl⟩⟩) | (go_at_call_of 7 (Value.agg #[.int .i64 kb, .int .i64 pb, .int .i64 qb, .bool gb, .slice Ab nb cb, .slice Cb mb db, .int .i64 rb]); (with_reducible refine (few_v h3 _).mono ?_); rintro e w1 ⟨rfl, ⟨xb, rfl⟩⟩))
  go_returns
  exact ⟨rfl, (by repeat' (first | exact Plus.refl _ | refine Plus.alloc ?_ _ | refine Plus.plus ?_ _ | refine Plus.drew ?_ | refine Plus.drewN ?_ _))⟩
theorem few3_v {op : ByteArray} {ka pa qa : Int} {ga : Bool} {Aa Ca : Option Addr} {na ca ma da : Nat} {ra : Int} {kb pb qb : Int} {gb : Bool} {Ab Cb : Option Addr} {nb cb mb db : Nat} {rb : Int} {z : Bool} (hz : Hid ((decide (op.size ≤ 100) && fewB ma na && fewB mb nb) = z)) (w : World) : Calls Tryz.prog 32 #[.string op, Value.agg #[.int .i64 ka, .int .i64 pa, .int .i64 qa, .bool ga, .slice Aa na ca, .slice Ca ma da, .int .i64 ra], Value.agg #[.int .i64 kb, .int .i64 pb, .int .i64 qb, .bool gb, .slice Ab nb cb, .slice Cb mb db, .int .i64 rb]] w (fun e w' => e = .returned (.bool z) ∧ Plus w w') := by
  obtain rfl := hz.out
  by_cases h1 : op.size ≤ 100
  · cases h2 : fewB ma na
    · simpa [h1, h2] using few3_n2 w h1 (Lib.hid h2)
    · cases h3 : fewB mb nb
      · simpa [h1, h2, h3] using few3_n3 w h1 (Lib.hid h2) (Lib.hid h3)
      · simpa [h1, h2, h3] using few3_y w h1 (Lib.hid h2) (Lib.hid h3)
  · simpa [h1] using few3_n1 w h1
end Go.Proofs.YtakahpbondaidaaGreatDoor
