/- Contracts: conv.Index and conv.Bool. -/
import Derived.Test.YtmlfcmmgoiigkaaGreatDoorVA
namespace Go.Proofs.YtmlfcmmgoiigkaaGreatDoor
open Go.RowKit

theorem nindex_v {p q x : Int} {o : Bool} (h : Hid (indexR p q = x ∧ indexO p q = o)) (w : World) : Calls Tryz.prog 68 #[.agg #[.int .i64 p, .int .i64 q]] w fun e w' => e = .returned (.tuple #[.int .i64 x, .bool o]) ∧ Plus w w' := by
  have := index_c p q w
  rw [h.out.1, h.out.2] at this
  exact this
theorem whole_v {p q a b : Int} (h : Hid (wholeR p q = ⟨a, b⟩)) (w : World) : Calls Tryz.prog 70 #[.agg #[.int .i64 p, .int .i64 q]] w fun e w' => e = .returned (.agg #[.int .i64 a, .int .i64 b]) ∧ Plus w w' := by
  have := whole_c p q w
  rw [h.out] at this
  exact this
set_option maxRecDepth 100000 in
set_option maxHeartbeats 4000000 in
theorem index_s {k p q : Int} {g : Bool} {A C : Option Addr} {n c m d : Nat} {r : Int} {v' : Value} {x : JV} {a b s : Int} (hJ : Hid (numJ x = ⟨a, b, s⟩)) (w : World) (hL : Hid (Lai w)) (hn : Hid (NV w v' x)) (hv : Hid (Vld w (Value.agg #[.int .i64 k, .int .i64 p, .int .i64 q, .bool g, .slice A n c, .slice C m d, .int .i64 r]) v')) (b1 : (s != 0) = true) : Calls Tryz.prog 25 #[Value.agg #[.int .i64 k, .int .i64 p, .int .i64 q, .bool g, .slice A n c, .slice C m d, .int .i64 r]] w fun e w' => e = .returned (.tuple #[.int .i64 0, .int .i64 s]) ∧ Plus w w' := by
  go_enter Tryz.func25, Tryz.ntmps25
  go_wp2_with (go_at_call 14; (with_reducible refine (cnumber_v hJ _ (hL.out.plus (by repeat' (first | exact Plus.refl _ | refine Plus.alloc ?_ _ | refine Plus.plus ?_ _ | refine Plus.drew ?_ | refine Plus.drewN ?_ _))) (hn.out.plus (by repeat' (first | exact Plus.refl _ | refine Plus.alloc ?_ _ | refine Plus.plus ?_ _ | refine Plus.drew ?_ | refine Plus.drewN ?_ _))) (hv.out.plus (by repeat' (first | exact Plus.refl _ | refine Plus.alloc ?_ _ | refine Plus.plus ?_ _ | refine Plus.drew ?_ | refine Plus.drewN ?_ _)))).mono ?_); rintro e w1 ⟨rfl, ⟨x1, rfl⟩⟩)
  go_returns
  exact ⟨rfl, (by repeat' (first | exact Plus.refl _ | refine Plus.alloc ?_ _ | refine Plus.plus ?_ _ | refine Plus.drew ?_ | refine Plus.drewN ?_ _))⟩
set_option maxRecDepth 100000 in
set_option maxHeartbeats 4000000 in
theorem index_y {k p q : Int} {g : Bool} {A C : Option Addr} {n c m d : Nat} {r : Int} {v' : Value} {x : JV} {a b : Int} (hJ : Hid (numJ x = ⟨a, b, 0⟩)) (w : World) (hL : Hid (Lai w)) (hn : Hid (NV w v' x)) (hv : Hid (Vld w (Value.agg #[.int .i64 k, .int .i64 p, .int .i64 q, .bool g, .slice A n c, .slice C m d, .int .i64 r]) v')) {i : Int} (hi : Hid (indexR a b = i ∧ indexO a b = true)) : Calls Tryz.prog 25 #[Value.agg #[.int .i64 k, .int .i64 p, .int .i64 q, .bool g, .slice A n c, .slice C m d, .int .i64 r]] w fun e w' => e = .returned (.tuple #[.int .i64 i, .int .i64 0]) ∧ Plus w w' := by
  go_enter Tryz.func25, Tryz.ntmps25
  go_wp2_with (first | (go_at_call 14; (with_reducible refine (cnumber_v hJ _ (hL.out.plus (by repeat' (first | exact Plus.refl _ | refine Plus.alloc ?_ _ | refine Plus.plus ?_ _ | refine Plus.drew ?_ | refine Plus.drewN ?_ _))) (hn.out.plus (by repeat' (first | exact Plus.refl _ | refine Plus.alloc ?_ _ | refine Plus.plus ?_ _ | refine Plus.drew ?_ | refine Plus.drewN ?_ _))) (hv.out.plus (by repeat' (first | exact Plus.refl _ | refine Plus.alloc ?_ _ | refine Plus.plus ?_ _ | refine Plus.drew ?_ | refine Plus.drewN ?_ _)))).mono ?_); rintro e w1 ⟨rfl, ⟨x1, rfl⟩⟩) | (go_at_call 68; (with_reducible refine (nindex_v hi _).mono ?_); rintro e w1 ⟨rfl, ⟨x2, rfl⟩⟩))
  go_returns
  exact ⟨rfl, (by repeat' (first | exact Plus.refl _ | refine Plus.alloc ?_ _ | refine Plus.plus ?_ _ | refine Plus.drew ?_ | refine Plus.drewN ?_ _))⟩
set_option maxRecDepth 100000 in
set_option maxHeartbeats 4000000 in
theorem index_n {k p q : Int} {g : Bool} {A C : Option Addr} {n c m d : Nat} {r : Int} {v' : Value} {x : JV} {a b : Int} (hJ : Hid (numJ x = ⟨a, b, 0⟩)) (w : World) (hL : Hid (Lai w)) (hn : Hid (NV w v' x)) (hv : Hid (Vld w (Value.agg #[.int .i64 k, .int .i64 p, .int .i64 q, .bool g, .slice A n c, .slice C m d, .int .i64 r]) v')) {i : Int} (hi : Hid (indexR a b = i ∧ indexO a b = false)) : Calls Tryz.prog 25 #[Value.agg #[.int .i64 k, .int .i64 p, .int .i64 q, .bool g, .slice A n c, .slice C m d, .int .i64 r]] w fun e w' => e = .returned (.tuple #[.int .i64 0, .int .i64 2]) ∧ Plus w w' := by
  go_enter Tryz.func25, Tryz.ntmps25
  go_wp2_with (first | (go_at_call 14; (with_reducible refine (cnumber_v hJ _ (hL.out.plus (by repeat' (first | exact Plus.refl _ | refine Plus.alloc ?_ _ | refine Plus.plus ?_ _ | refine Plus.drew ?_ | refine Plus.drewN ?_ _))) (hn.out.plus (by repeat' (first | exact Plus.refl _ | refine Plus.alloc ?_ _ | refine Plus.plus ?_ _ | refine Plus.drew ?_ | refine Plus.drewN ?_ _))) (hv.out.plus (by repeat' (first | exact Plus.refl _ | refine Plus.alloc ?_ _ | refine Plus.plus ?_ _ | refine Plus.drew ?_ | refine Plus.drewN ?_ _)))).mono ?_); rintro e w1 ⟨rfl, ⟨x1, rfl⟩⟩) | (go_at_call 68; (with_reducible refine (nindex_v hi _).mono ?_); rintro e w1 ⟨rfl, ⟨x2, rfl⟩⟩))
  go_returns
  exact ⟨rfl, (by repeat' (first | exact Plus.refl _ | refine Plus.alloc ?_ _ | refine Plus.plus ?_ _ | refine Plus.drew ?_ | refine Plus.drewN ?_ _))⟩
/-- Two ints. -/
structure I2 where
  i : Int
  s : Int
def idxN (a : N3) : I2 := if a.s = 0 then (if indexO a.k a.n = true then ⟨indexR a.k a.n, 0⟩ else ⟨0, 2⟩) else ⟨0, a.s⟩
def idxJ (x : JV) : I2 := idxN (numJ x)
theorem cindex_v {k p q : Int} {g : Bool} {A C : Option Addr} {n c m d : Nat} {r : Int} {v' : Value} {x : JV} {i s : Int} (hI : Hid (idxJ x = ⟨i, s⟩)) (w : World) (hL : Lai w) (hn : NV w v' x) (hv : Vld w (Value.agg #[.int .i64 k, .int .i64 p, .int .i64 q, .bool g, .slice A n c, .slice C m d, .int .i64 r]) v') : Calls Tryz.prog 25 #[Value.agg #[.int .i64 k, .int .i64 p, .int .i64 q, .bool g, .slice A n c, .slice C m d, .int .i64 r]] w fun e w' => e = .returned (.tuple #[.int .i64 i, .int .i64 s]) ∧ Plus w w' := by
  obtain ⟨a, b, z, hJ⟩ : ∃ a b z, numJ x = ⟨a, b, z⟩ := ⟨_, _, _, rfl⟩
  have q := hI.out
  unfold idxJ idxN at q
  rw [hJ] at q
  simp only at q
  by_cases h0 : z = 0
  · subst h0
    rw [if_pos rfl] at q
    by_cases ho : indexO a b = true
    · rw [if_pos ho] at q
      simp only [I2.mk.injEq] at q
      obtain ⟨rfl, rfl⟩ := q
      exact index_y (Lib.hid hJ) w (Lib.hid hL) (Lib.hid hn) (Lib.hid hv) (Lib.hid ⟨rfl, ho⟩)
    · rw [if_neg ho] at q
      simp only [I2.mk.injEq] at q
      obtain ⟨rfl, rfl⟩ := q
      exact index_n (i := indexR a b) (Lib.hid hJ) w (Lib.hid hL) (Lib.hid hn) (Lib.hid hv) (Lib.hid ⟨rfl, by simpa using ho⟩)
  · rw [if_neg h0] at q
    simp only [I2.mk.injEq] at q
    obtain ⟨rfl, rfl⟩ := q
    exact index_s (Lib.hid hJ) w (Lib.hid hL) (Lib.hid hn) (Lib.hid hv) (by simp [h0])
set_option maxRecDepth 100000 in
set_option maxHeartbeats 4000000 in
theorem bool_undef {k p q : Int} {g : Bool} {A C : Option Addr} {n c m d : Nat} {r : Int} {A2 C2 : Option Addr} {c2 d2 : Nat} (w : World) (hv : Hid (Vld w (Value.agg #[.int .i64 k, .int .i64 p, .int .i64 q, .bool g, .slice A n c, .slice C m d, .int .i64 r]) (Value.agg #[.int .i64 0, .int .i64 0, .int .i64 0, .bool false, .slice A2 0 c2, .slice C2 0 d2, .int .i64 0]))) : Calls Tryz.prog 28 #[Value.agg #[.int .i64 k, .int .i64 p, .int .i64 q, .bool g, .slice A n c, .slice C m d, .int .i64 r]] w fun e w' => e = .returned (.bool false) ∧ Plus w w' := by
  go_enter Tryz.func28, Tryz.ntmps28
  go_wp2_with (go_at_call 49; (with_reducible refine (Vld.call hv.out (by repeat' (first | exact Plus.refl _ | refine Plus.alloc ?_ _ | refine Plus.plus ?_ _ | refine Plus.drew ?_ | refine Plus.drewN ?_ _))).mono ?_); rintro e w1 ⟨rfl, ⟨x1, rfl⟩⟩)
  go_returns
  exact ⟨rfl, (by repeat' (first | exact Plus.refl _ | refine Plus.alloc ?_ _ | refine Plus.plus ?_ _ | refine Plus.drew ?_ | refine Plus.drewN ?_ _))⟩
set_option maxRecDepth 100000 in
set_option maxHeartbeats 4000000 in
theorem bool_null {k p q : Int} {g : Bool} {A C : Option Addr} {n c m d : Nat} {r : Int} {A2 C2 : Option Addr} {c2 d2 : Nat} (w : World) (hv : Hid (Vld w (Value.agg #[.int .i64 k, .int .i64 p, .int .i64 q, .bool g, .slice A n c, .slice C m d, .int .i64 r]) (Value.agg #[.int .i64 1, .int .i64 0, .int .i64 0, .bool false, .slice A2 0 c2, .slice C2 0 d2, .int .i64 0]))) : Calls Tryz.prog 28 #[Value.agg #[.int .i64 k, .int .i64 p, .int .i64 q, .bool g, .slice A n c, .slice C m d, .int .i64 r]] w fun e w' => e = .returned (.bool false) ∧ Plus w w' := by
  go_enter Tryz.func28, Tryz.ntmps28
  go_wp2_with (go_at_call 49; (with_reducible refine (Vld.call hv.out (by repeat' (first | exact Plus.refl _ | refine Plus.alloc ?_ _ | refine Plus.plus ?_ _ | refine Plus.drew ?_ | refine Plus.drewN ?_ _))).mono ?_); rintro e w1 ⟨rfl, ⟨x1, rfl⟩⟩)
  go_returns
  exact ⟨rfl, (by repeat' (first | exact Plus.refl _ | refine Plus.alloc ?_ _ | refine Plus.plus ?_ _ | refine Plus.drew ?_ | refine Plus.drewN ?_ _))⟩
set_option maxRecDepth 100000 in
set_option maxHeartbeats 4000000 in
theorem bool_tru {k p q : Int} {g : Bool} {A C : Option Addr} {n c m d : Nat} {r : Int} {A2 C2 : Option Addr} {c2 d2 : Nat} (w : World) (hv : Hid (Vld w (Value.agg #[.int .i64 k, .int .i64 p, .int .i64 q, .bool g, .slice A n c, .slice C m d, .int .i64 r]) (Value.agg #[.int .i64 2, .int .i64 0, .int .i64 0, .bool false, .slice A2 0 c2, .slice C2 0 d2, .int .i64 1]))) : Calls Tryz.prog 28 #[Value.agg #[.int .i64 k, .int .i64 p, .int .i64 q, .bool g, .slice A n c, .slice C m d, .int .i64 r]] w fun e w' => e = .returned (.bool true) ∧ Plus w w' := by
  go_enter Tryz.func28, Tryz.ntmps28
  go_wp2_with (go_at_call 49; (with_reducible refine (Vld.call hv.out (by repeat' (first | exact Plus.refl _ | refine Plus.alloc ?_ _ | refine Plus.plus ?_ _ | refine Plus.drew ?_ | refine Plus.drewN ?_ _))).mono ?_); rintro e w1 ⟨rfl, ⟨x1, rfl⟩⟩)
  go_returns
  exact ⟨rfl, (by repeat' (first | exact Plus.refl _ | refine Plus.alloc ?_ _ | refine Plus.plus ?_ _ | refine Plus.drew ?_ | refine Plus.drewN ?_ _))⟩
set_option maxRecDepth 100000 in
set_option maxHeartbeats 4000000 in
theorem bool_fal {k p q : Int} {g : Bool} {A C : Option Addr} {n c m d : Nat} {r : Int} {A2 C2 : Option Addr} {c2 d2 : Nat} (w : World) (hv : Hid (Vld w (Value.agg #[.int .i64 k, .int .i64 p, .int .i64 q, .bool g, .slice A n c, .slice C m d, .int .i64 r]) (Value.agg #[.int .i64 2, .int .i64 0, .int .i64 0, .bool false, .slice A2 0 c2, .slice C2 0 d2, .int .i64 0]))) : Calls Tryz.prog 28 #[Value.agg #[.int .i64 k, .int .i64 p, .int .i64 q, .bool g, .slice A n c, .slice C m d, .int .i64 r]] w fun e w' => e = .returned (.bool false) ∧ Plus w w' := by
  go_enter Tryz.func28, Tryz.ntmps28
  go_wp2_with (go_at_call 49; (with_reducible refine (Vld.call hv.out (by repeat' (first | exact Plus.refl _ | refine Plus.alloc ?_ _ | refine Plus.plus ?_ _ | refine Plus.drew ?_ | refine Plus.drewN ?_ _))).mono ?_); rintro e w1 ⟨rfl, ⟨x1, rfl⟩⟩)
  go_returns
  exact ⟨rfl, (by repeat' (first | exact Plus.refl _ | refine Plus.alloc ?_ _ | refine Plus.plus ?_ _ | refine Plus.drew ?_ | refine Plus.drewN ?_ _))⟩
set_option maxRecDepth 100000 in
set_option maxHeartbeats 4000000 in
theorem bool0_num {k p q : Int} {g : Bool} {A C : Option Addr} {n c m d : Nat} {r : Int} {p2 q2 : Int} {A2 C2 : Option Addr} {c2 d2 : Nat} (w : World) (hv : Hid (Vld w (Value.agg #[.int .i64 k, .int .i64 p, .int .i64 q, .bool g, .slice A n c, .slice C m d, .int .i64 r]) (Value.agg #[.int .i64 3, .int .i64 p2, .int .i64 q2, .bool false, .slice A2 0 c2, .slice C2 0 d2, .int .i64 0])))  (hw : Hid (wholeR p2 q2 = ⟨0, 0⟩)) : Calls Tryz.prog 28 #[Value.agg #[.int .i64 k, .int .i64 p, .int .i64 q, .bool g, .slice A n c, .slice C m d, .int .i64 r]] w fun e w' => e = .returned (.bool false) ∧ Plus w w' := by
  go_enter Tryz.func28, Tryz.ntmps28
  go_wp2_with (first | (go_at_call 49; (with_reducible refine (Vld.call hv.out (by repeat' (first | exact Plus.refl _ | refine Plus.alloc ?_ _ | refine Plus.plus ?_ _ | refine Plus.drew ?_ | refine Plus.drewN ?_ _))).mono ?_); rintro e w1 ⟨rfl, ⟨x1, rfl⟩⟩) | (go_at_call 70; (with_reducible refine (whole_v hw _).mono ?_); rintro e w2 ⟨rfl, ⟨x2, rfl⟩⟩))
  go_returns
  exact ⟨rfl, (by repeat' (first | exact Plus.refl _ | refine Plus.alloc ?_ _ | refine Plus.plus ?_ _ | refine Plus.drew ?_ | refine Plus.drewN ?_ _))⟩
set_option maxRecDepth 100000 in
set_option maxHeartbeats 4000000 in
theorem bool1_num {k p q : Int} {g : Bool} {A C : Option Addr} {n c m d : Nat} {r : Int} {p2 q2 : Int} {A2 C2 : Option Addr} {c2 d2 : Nat} (w : World) (hv : Hid (Vld w (Value.agg #[.int .i64 k, .int .i64 p, .int .i64 q, .bool g, .slice A n c, .slice C m d, .int .i64 r]) (Value.agg #[.int .i64 3, .int .i64 p2, .int .i64 q2, .bool false, .slice A2 0 c2, .slice C2 0 d2, .int .i64 0]))) {a b : Int} (b0 : (a == 0) = false) (hw : Hid (wholeR p2 q2 = ⟨a, b⟩)) : Calls Tryz.prog 28 #[Value.agg #[.int .i64 k, .int .i64 p, .int .i64 q, .bool g, .slice A n c, .slice C m d, .int .i64 r]] w fun e w' => e = .returned (.bool true) ∧ Plus w w' := by
  go_enter Tryz.func28, Tryz.ntmps28
  go_wp2_with (first | (go_at_call 49; (with_reducible refine (Vld.call hv.out (by repeat' (first | exact Plus.refl _ | refine Plus.alloc ?_ _ | refine Plus.plus ?_ _ | refine Plus.drew ?_ | refine Plus.drewN ?_ _))).mono ?_); rintro e w1 ⟨rfl, ⟨x1, rfl⟩⟩) | (go_at_call 70; (with_reducible refine (whole_v hw _).mono ?_); rintro e w2 ⟨rfl, ⟨x2, rfl⟩⟩))
  go_returns
  exact ⟨rfl, (by repeat' (first | exact Plus.refl _ | refine Plus.alloc ?_ _ | refine Plus.plus ?_ _ | refine Plus.drew ?_ | refine Plus.drewN ?_ _))⟩
set_option maxRecDepth 100000 in
set_option maxHeartbeats 4000000 in
theorem bool2_num {k p q : Int} {g : Bool} {A C : Option Addr} {n c m d : Nat} {r : Int} {p2 q2 : Int} {A2 C2 : Option Addr} {c2 d2 : Nat} (w : World) (hv : Hid (Vld w (Value.agg #[.int .i64 k, .int .i64 p, .int .i64 q, .bool g, .slice A n c, .slice C m d, .int .i64 r]) (Value.agg #[.int .i64 3, .int .i64 p2, .int .i64 q2, .bool false, .slice A2 0 c2, .slice C2 0 d2, .int .i64 0]))) {b : Int} (b0 : (b == 0) = false) (hw : Hid (wholeR p2 q2 = ⟨0, b⟩)) : Calls Tryz.prog 28 #[Value.agg #[.int .i64 k, .int .i64 p, .int .i64 q, .bool g, .slice A n c, .slice C m d, .int .i64 r]] w fun e w' => e = .returned (.bool true) ∧ Plus w w' := by
  go_enter Tryz.func28, Tryz.ntmps28
  go_wp2_with (first | (go_at_call 49; (with_reducible refine (Vld.call hv.out (by repeat' (first | exact Plus.refl _ | refine Plus.alloc ?_ _ | refine Plus.plus ?_ _ | refine Plus.drew ?_ | refine Plus.drewN ?_ _))).mono ?_); rintro e w1 ⟨rfl, ⟨x1, rfl⟩⟩) | (go_at_call 70; (with_reducible refine (whole_v hw _).mono ?_); rintro e w2 ⟨rfl, ⟨x2, rfl⟩⟩))
  go_returns
  exact ⟨rfl, (by repeat' (first | exact Plus.refl _ | refine Plus.alloc ?_ _ | refine Plus.plus ?_ _ | refine Plus.drew ?_ | refine Plus.drewN ?_ _))⟩
theorem Bg.arg_nil {w : World} : Bg.Arg w none [] 0 0 := ⟨Bg.Lim.nil, rfl, by simp, by simp, by omega⟩
theorem bsame_v {an bn : Bool} {A C : Option Addr} {xs ys : List Nat} {n c m d : Nat} {a b : Int} {v : Bool} (hA : Hid (Bg.bigI an xs = a)) (hB : Hid (Bg.bigI bn ys = b)) (hr : Hid (decide (a = b) = v)) (w : World) (ha : Bg.Arg w A xs n c) (hb : Bg.Arg w C ys m d) :
    Calls Tryz.prog 71 #[.agg #[.bool an, .slice A n c], .agg #[.bool bn, .slice C m d]] w fun e w' => e = .returned (.bool v) ∧ Plus w w' := Bg.same_n hA hB hr w ha hb
set_option maxRecDepth 100000 in
set_option maxHeartbeats 4000000 in
theorem boolt_big {k p q : Int} {g : Bool} {A C : Option Addr} {n c m d : Nat} {r : Int} {g2 : Bool} {A2 C2 : Option Addr} {xs2 : List Nat} {n2 c2 d2 : Nat} (w : World) (hv : Hid (Vld w (Value.agg #[.int .i64 k, .int .i64 p, .int .i64 q, .bool g, .slice A n c, .slice C m d, .int .i64 r]) (Value.agg #[.int .i64 4, .int .i64 0, .int .i64 0, .bool g2, .slice A2 n2 c2, .slice C2 0 d2, .int .i64 0]))) (hb : Hid (Bg.Arg w A2 xs2 n2 c2)) {z : Int} (hz : Hid (Bg.bigI g2 xs2 = z)) (hB : Hid (Bg.bigI false [] = 0)) (hr : Hid (decide (z = 0) = true)) : Calls Tryz.prog 28 #[Value.agg #[.int .i64 k, .int .i64 p, .int .i64 q, .bool g, .slice A n c, .slice C m d, .int .i64 r]] w fun e w' => e = .returned (.bool false) ∧ Plus w w' := by
  go_enter Tryz.func28, Tryz.ntmps28
  go_wp2_with (first | (go_at_call 49; (with_reducible refine (Vld.call hv.out (by repeat' (first | exact Plus.refl _ | refine Plus.alloc ?_ _ | refine Plus.plus ?_ _ | refine Plus.drew ?_ | refine Plus.drewN ?_ _))).mono ?_); rintro e w1 ⟨rfl, ⟨x1, rfl⟩⟩) | (go_at_call 71; (with_reducible refine (bsame_v hz hB hr _ (hb.out.plus (by repeat' (first | exact Plus.refl _ | refine Plus.alloc ?_ _ | refine Plus.plus ?_ _ | refine Plus.drew ?_ | refine Plus.drewN ?_ _))) Bg.arg_nil).mono ?_); rintro e w2 ⟨rfl, ⟨x2, rfl⟩⟩))
  go_returns
  exact ⟨rfl, (by repeat' (first | exact Plus.refl _ | refine Plus.alloc ?_ _ | refine Plus.plus ?_ _ | refine Plus.drew ?_ | refine Plus.drewN ?_ _))⟩
set_option maxRecDepth 100000 in
set_option maxHeartbeats 4000000 in
theorem boolf_big {k p q : Int} {g : Bool} {A C : Option Addr} {n c m d : Nat} {r : Int} {g2 : Bool} {A2 C2 : Option Addr} {xs2 : List Nat} {n2 c2 d2 : Nat} (w : World) (hv : Hid (Vld w (Value.agg #[.int .i64 k, .int .i64 p, .int .i64 q, .bool g, .slice A n c, .slice C m d, .int .i64 r]) (Value.agg #[.int .i64 4, .int .i64 0, .int .i64 0, .bool g2, .slice A2 n2 c2, .slice C2 0 d2, .int .i64 0]))) (hb : Hid (Bg.Arg w A2 xs2 n2 c2)) {z : Int} (hz : Hid (Bg.bigI g2 xs2 = z)) (hB : Hid (Bg.bigI false [] = 0)) (hr : Hid (decide (z = 0) = false)) : Calls Tryz.prog 28 #[Value.agg #[.int .i64 k, .int .i64 p, .int .i64 q, .bool g, .slice A n c, .slice C m d, .int .i64 r]] w fun e w' => e = .returned (.bool true) ∧ Plus w w' := by
  go_enter Tryz.func28, Tryz.ntmps28
  go_wp2_with (first | (go_at_call 49; (with_reducible refine (Vld.call hv.out (by repeat' (first | exact Plus.refl _ | refine Plus.alloc ?_ _ | refine Plus.plus ?_ _ | refine Plus.drew ?_ | refine Plus.drewN ?_ _))).mono ?_); rintro e w1 ⟨rfl, ⟨x1, rfl⟩⟩) | (go_at_call 71; (with_reducible refine (bsame_v hz hB hr _ (hb.out.plus (by repeat' (first | exact Plus.refl _ | refine Plus.alloc ?_ _ | refine Plus.plus ?_ _ | refine Plus.drew ?_ | refine Plus.drewN ?_ _))) Bg.arg_nil).mono ?_); rintro e w2 ⟨rfl, ⟨x2, rfl⟩⟩))
  go_returns
  exact ⟨rfl, (by repeat' (first | exact Plus.refl _ | refine Plus.alloc ?_ _ | refine Plus.plus ?_ _ | refine Plus.drew ?_ | refine Plus.drewN ?_ _))⟩
set_option maxRecDepth 100000 in
set_option maxHeartbeats 4000000 in
theorem bool0_text {k p q : Int} {g : Bool} {A C : Option Addr} {n c m d : Nat} {r : Int} {A2 C2 : Option Addr} {c2 m2 d2 : Nat} (w : World) (hv : Hid (Vld w (Value.agg #[.int .i64 k, .int .i64 p, .int .i64 q, .bool g, .slice A n c, .slice C m d, .int .i64 r]) (Value.agg #[.int .i64 5, .int .i64 0, .int .i64 0, .bool false, .slice A2 0 c2, .slice C2 m2 d2, .int .i64 0]))) (b0 : m2 = 0) : Calls Tryz.prog 28 #[Value.agg #[.int .i64 k, .int .i64 p, .int .i64 q, .bool g, .slice A n c, .slice C m d, .int .i64 r]] w fun e w' => e = .returned (.bool false) ∧ Plus w w' := by
  subst b0
  go_enter Tryz.func28, Tryz.ntmps28
  go_wp2_with (go_at_call 49; (with_reducible refine (Vld.call hv.out (by repeat' (first | exact Plus.refl _ | refine Plus.alloc ?_ _ | refine Plus.plus ?_ _ | refine Plus.drew ?_ | refine Plus.drewN ?_ _))).mono ?_); rintro e w1 ⟨rfl, ⟨x1, rfl⟩⟩)
  go_returns
  exact ⟨rfl, (by repeat' (first | exact Plus.refl _ | refine Plus.alloc ?_ _ | refine Plus.plus ?_ _ | refine Plus.drew ?_ | refine Plus.drewN ?_ _))⟩
set_option maxRecDepth 100000 in
set_option maxHeartbeats 4000000 in
theorem bool1_text {k p q : Int} {g : Bool} {A C : Option Addr} {n c m d : Nat} {r : Int} {A2 C2 : Option Addr} {c2 m2 d2 : Nat} (w : World) (hv : Hid (Vld w (Value.agg #[.int .i64 k, .int .i64 p, .int .i64 q, .bool g, .slice A n c, .slice C m d, .int .i64 r]) (Value.agg #[.int .i64 5, .int .i64 0, .int .i64 0, .bool false, .slice A2 0 c2, .slice C2 m2 d2, .int .i64 0]))) (b0 : 0 < m2) : Calls Tryz.prog 28 #[Value.agg #[.int .i64 k, .int .i64 p, .int .i64 q, .bool g, .slice A n c, .slice C m d, .int .i64 r]] w fun e w' => e = .returned (.bool true) ∧ Plus w w' := by
  go_enter Tryz.func28, Tryz.ntmps28
  go_wp2_with (go_at_call 49; (with_reducible refine (Vld.call hv.out (by repeat' (first | exact Plus.refl _ | refine Plus.alloc ?_ _ | refine Plus.plus ?_ _ | refine Plus.drew ?_ | refine Plus.drewN ?_ _))).mono ?_); rintro e w1 ⟨rfl, ⟨x1, rfl⟩⟩)
  go_returns
  exact ⟨rfl, (by repeat' (first | exact Plus.refl _ | refine Plus.alloc ?_ _ | refine Plus.plus ?_ _ | refine Plus.drew ?_ | refine Plus.drewN ?_ _))⟩
set_option maxRecDepth 100000 in
set_option maxHeartbeats 4000000 in
theorem bool_obj {k p q : Int} {g : Bool} {A C : Option Addr} {n c m d : Nat} {r : Int} {A2 C2 : Option Addr} {c2 d2 : Nat} {r2 : Int} (w : World) (hv : Hid (Vld w (Value.agg #[.int .i64 k, .int .i64 p, .int .i64 q, .bool g, .slice A n c, .slice C m d, .int .i64 r]) (Value.agg #[.int .i64 6, .int .i64 0, .int .i64 0, .bool false, .slice A2 0 c2, .slice C2 0 d2, .int .i64 r2]))) : Calls Tryz.prog 28 #[Value.agg #[.int .i64 k, .int .i64 p, .int .i64 q, .bool g, .slice A n c, .slice C m d, .int .i64 r]] w fun e w' => e = .returned (.bool true) ∧ Plus w w' := by
  go_enter Tryz.func28, Tryz.ntmps28
  go_wp2_with (go_at_call 49; (with_reducible refine (Vld.call hv.out (by repeat' (first | exact Plus.refl _ | refine Plus.alloc ?_ _ | refine Plus.plus ?_ _ | refine Plus.drew ?_ | refine Plus.drewN ?_ _))).mono ?_); rintro e w1 ⟨rfl, ⟨x1, rfl⟩⟩)
  go_returns
  exact ⟨rfl, (by repeat' (first | exact Plus.refl _ | refine Plus.alloc ?_ _ | refine Plus.plus ?_ _ | refine Plus.drew ?_ | refine Plus.drewN ?_ _))⟩
def boolJ : JV → Bool
  | .undef => false
  | .null => false
  | .bool b => b
  | .num p q => !((wholeR p q).k == 0 && (wholeR p q).n == 0)
  | .big z => !decide (z = 0)
  | .text us => !us.isEmpty
  | .obj _ => true
theorem cbool_v {k p q : Int} {g : Bool} {A C : Option Addr} {n c m d : Nat} {r : Int} {v' : Value} {x : JV} {z : Bool} (hJ : Hid (boolJ x = z)) (w : World) (hn : NV w v' x) (hv : Vld w (Value.agg #[.int .i64 k, .int .i64 p, .int .i64 q, .bool g, .slice A n c, .slice C m d, .int .i64 r]) v') :
    Calls Tryz.prog 28 #[Value.agg #[.int .i64 k, .int .i64 p, .int .i64 q, .bool g, .slice A n c, .slice C m d, .int .i64 r]] w fun e w' => e = .returned (.bool z) ∧ Plus w w' := by
  obtain rfl := hJ.out
  cases x with
  | undef => obtain ⟨A2, C2, c2, d2, rfl, h1, h2⟩ := hn; exact bool_undef w (Lib.hid hv)
  | null => obtain ⟨A2, C2, c2, d2, rfl, h1, h2⟩ := hn; exact bool_null w (Lib.hid hv)
  | bool b0 =>
    obtain ⟨A2, C2, c2, d2, rfl, h1, h2⟩ := hn
    cases b0
    · exact bool_fal w (Lib.hid hv)
    · exact bool_tru w (Lib.hid hv)
  | num p2 q2 =>
    obtain ⟨A2, C2, c2, d2, rfl, h1, h2, h3⟩ := hn
    obtain ⟨a, b, hw⟩ : ∃ a b, wholeR p2 q2 = ⟨a, b⟩ := ⟨_, _, rfl⟩
    by_cases ha : a = 0
    · subst ha
      by_cases hb : b = 0
      · subst hb
        rw [show boolJ (.num p2 q2) = false by simp [boolJ, hw]]
        exact bool0_num w (Lib.hid hv) (Lib.hid hw)
      · rw [show boolJ (.num p2 q2) = true by simp [boolJ, hw, hb]]
        exact bool2_num w (Lib.hid hv) (beq_f hb) (Lib.hid hw)
    · rw [show boolJ (.num p2 q2) = true by simp [boolJ, hw, ha]]
      exact bool1_num w (Lib.hid hv) (beq_f ha) (Lib.hid hw)
  | big z =>
    obtain ⟨g2, A2, C2, xs2, n2, c2, d2, rfl, h1, h2, rfl, h4⟩ := hn
    by_cases hz : Bg.bigI g2 xs2 = 0
    · rw [show boolJ (.big (Bg.bigI g2 xs2)) = false by simp [boolJ, hz]]
      exact boolt_big w (Lib.hid hv) (Lib.hid h4) (Lib.hid rfl) (Lib.hid (by decide)) (Lib.hid (by simp [hz]))
    · rw [show boolJ (.big (Bg.bigI g2 xs2)) = true by simp [boolJ, hz]]
      exact boolf_big w (Lib.hid hv) (Lib.hid h4) (Lib.hid rfl) (Lib.hid (by decide)) (Lib.hid (by simp [hz]))
  | text us2 =>
    obtain ⟨A2, C2, c2, m2, d2, rfl, h1, h2, h3⟩ := hn
    have hl := h3.len
    cases us2 with
    | nil => exact bool0_text w (Lib.hid hv) hl
    | cons u us => exact bool1_text w (Lib.hid hv) (by rw [hl]; simp)
  | obj r2 => obtain ⟨A2, C2, c2, d2, rfl, h1, h2, h3⟩ := hn; exact bool_obj w (Lib.hid hv)
end Go.Proofs.YtmlfcmmgoiigkaaGreatDoor
