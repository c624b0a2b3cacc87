/- Contract: conv.Strict. -/
import Derived.Test.YtakahpbondaidaaGreatDoorZJ
namespace Go.Proofs.YtakahpbondaidaaGreatDoor
open Go.RowKit

theorem mayV_cases {k p q : Int} {g : Bool} {xs us : List Nat} {r : Int} (h : mayV k p q g xs us r = true) :
  ((k = 0 ∨ k = 1) ∧ p = 0 ∧ q = 0 ∧ g = false ∧ xs = [] ∧ us = [] ∧ r = 0) ∨
  (k = 2 ∧ p = 0 ∧ q = 0 ∧ g = false ∧ xs = [] ∧ us = [] ∧ (r = 0 ∨ r = 1)) ∨
  (k = 3 ∧ mayB p q = true ∧ g = false ∧ xs = [] ∧ us = [] ∧ r = 0) ∨
  (k = 4 ∧ p = 0 ∧ q = 0 ∧ Bg.mayL g xs = true ∧ us = [] ∧ r = 0) ∨
  (k = 5 ∧ p = 0 ∧ q = 0 ∧ g = false ∧ xs = [] ∧ us.length ≤ 4096 ∧ r = 0) ∨
  (k = 6 ∧ p = 0 ∧ q = 0 ∧ g = false ∧ xs = [] ∧ us = [] ∧ 0 ≤ r) := by
  unfold mayV at h
  exact of_decide_eq_true h
/-- A valid value, with all its fields. -/
theorem NV.gen {w : World} {v' : Value} {x : JV} (h : NV w v' x) : ∃ (k p q : Int) (g : Bool) (A C : Option Addr) (xs us : List Nat) (n c m d : Nat) (r : Int), v' = (Value.agg #[.int .i64 k, .int .i64 p, .int .i64 q, .bool g, .slice A n c, .slice C m d, .int .i64 r]) ∧ VM w A xs n c C us m d ∧ n ≤ 1048576 ∧ jv k p q g xs us r = x ∧ mayV k p q g xs us r = true := by
  cases x with
  | undef =>
    obtain ⟨A, C, c, d, rfl, h1, h2⟩ := h
    exact ⟨_, _, _, _, _, _, [], [], _, _, _, _, _, rfl, ⟨Ar.nil _ _ _ _ h1 _, Ar.nil _ _ _ _ h2 _⟩, by omega, rfl, rfl⟩
  | null =>
    obtain ⟨A, C, c, d, rfl, h1, h2⟩ := h
    exact ⟨_, _, _, _, _, _, [], [], _, _, _, _, _, rfl, ⟨Ar.nil _ _ _ _ h1 _, Ar.nil _ _ _ _ h2 _⟩, by omega, rfl, rfl⟩
  | bool b =>
    obtain ⟨A, C, c, d, rfl, h1, h2⟩ := h
    refine ⟨_, _, _, _, _, _, [], [], _, _, _, _, _, rfl, ⟨Ar.nil _ _ _ _ h1 _, Ar.nil _ _ _ _ h2 _⟩, by omega, ?_, ?_⟩ <;> cases b <;> rfl
  | num p q =>
    obtain ⟨A, C, c, d, rfl, h1, h2, h3⟩ := h
    have e : mayV 3 p q false [] [] 0 = true := by unfold mayV; simp [mayB_isV h3]
    exact ⟨_, _, _, _, _, _, [], [], _, _, _, _, _, rfl, ⟨Ar.nil _ _ _ _ h1 _, Ar.nil _ _ _ _ h2 _⟩, by omega, by unfold jv; rw [if_pos e]; rfl, e⟩
  | big z =>
    obtain ⟨g, A, C, xs, n, c, d, rfl, h1, h2, rfl, h4⟩ := h
    have e : mayV 4 0 0 g xs [] 0 = true := by unfold mayV; simp [h2]
    exact ⟨_, _, _, _, _, _, xs, [], _, _, _, _, _, rfl, ⟨ar_arg h4, Ar.nil _ _ _ _ h1 _⟩, by have := h4.few; have := h4.len; omega, by unfold jv; rw [if_pos e]; rfl, e⟩
  | text us =>
    obtain ⟨A, C, c, m, d, rfl, h1, h2, h3⟩ := h
    have e : mayV 5 0 0 false [] us 0 = true := by unfold mayV; simp [h2]
    exact ⟨_, _, _, _, _, _, [], us, _, _, _, _, _, rfl, ⟨Ar.nil _ _ _ _ h1 _, h3⟩, by omega, by unfold jv; rw [if_pos e]; rfl, e⟩
  | obj r =>
    obtain ⟨A, C, c, d, rfl, h1, h2, h3⟩ := h
    have e : mayV 6 0 0 false [] [] r = true := by unfold mayV; simp [h3]
    exact ⟨_, _, _, _, _, _, [], [], _, _, _, _, _, rfl, ⟨Ar.nil _ _ _ _ h1 _, Ar.nil _ _ _ _ h2 _⟩, by omega, by unfold jv; rw [if_pos e]; rfl, e⟩
/-- A valid value stays what it is. -/
theorem NV.vld {w : World} {v' : Value} {x : JV} (h : NV w v' x) : Vld w v' v' := by
  obtain ⟨k, p, q, g, A, C, xs, us, n, c, m, d, r, rfl, hm, hf, _, hv⟩ := h.gen
  exact fun w1 hp => valid_y (Lib.hid hv) w1 (Lib.hid (hm.plus hp)) hf
set_option maxRecDepth 100000 in
set_option maxHeartbeats 4000000 in
theorem strict_d {ka pa qa : Int} {ga : Bool} {Aa Ca : Option Addr} {na ca ma da : Nat} {ra : Int} {kb pb qb : Int} {gb : Bool} {Ab Cb : Option Addr} {nb cb mb db : Nat} {rb : Int} {k2 p2 q2 : Int} {g2 : Bool} {A2 C2 : Option Addr} {n2 c2 m2 d2 : Nat} {r2 : Int} {k3 p3 q3 : Int} {g3 : Bool} {A3 C3 : Option Addr} {n3 c3 m3 d3 : Nat} {r3 : Int} (w : World) (hva : Hid (Vld w (Value.agg #[.int .i64 ka, .int .i64 pa, .int .i64 qa, .bool ga, .slice Aa na ca, .slice Ca ma da, .int .i64 ra]) (Value.agg #[.int .i64 k2, .int .i64 p2, .int .i64 q2, .bool g2, .slice A2 n2 c2, .slice C2 m2 d2, .int .i64 r2]))) (hvb : Hid (Vld w (Value.agg #[.int .i64 kb, .int .i64 pb, .int .i64 qb, .bool gb, .slice Ab nb cb, .slice Cb mb db, .int .i64 rb]) (Value.agg #[.int .i64 k3, .int .i64 p3, .int .i64 q3, .bool g3, .slice A3 n3 c3, .slice C3 m3 d3, .int .i64 r3]))) (b0 : (k2 != k3) = true) : Calls Tryz.prog 29 #[Value.agg #[.int .i64 ka, .int .i64 pa, .int .i64 qa, .bool ga, .slice Aa na ca, .slice Ca ma da, .int .i64 ra], Value.agg #[.int .i64 kb, .int .i64 pb, .int .i64 qb, .bool gb, .slice Ab nb cb, .slice Cb mb db, .int .i64 rb]] w fun e w' => e = .returned (.bool false) ∧ Plus w w' := by
  go_enter Tryz.func29, Tryz.ntmps29
  go_upto_region 1 with fail
  go_cut [] (fun wx => ∃ x1 x2, wx = plus (plus ((w.alloc (.cells #[.int .i64 k2, .int .i64 p2, .int .i64 q2, .bool g2, .slice A2 n2 c2, .slice C2 m2 d2, .int .i64 r2] 29)).alloc (.cells #[.int .i64 k3, .int .i64 p3, .int .i64 q3, .bool g3, .slice A3 n3 c3, .slice C3 m3 d3, .int .i64 r3] 29)) x1) x2)
  case first =>
    go_region_with (first | (go_at_call_of 43 (Value.agg #[.int .i64 ka, .int .i64 pa, .int .i64 qa, .bool ga, .slice Aa na ca, .slice Ca ma da, .int .i64 ra]); (with_reducible refine (Vld.call hva.out (by repeat' (first | exact Plus.refl _ | refine Plus.alloc ?_ _ | refine Plus.plus ?_ _ | refine Plus.drew ?_ | refine Plus.drewN ?_ _))).mono ?_); rintro e w1 ⟨rfl, ⟨x1, rfl⟩⟩) | (go_at_call_of 43 (Value.agg #[.int .i64 kb, .int .i64 pb, .int .i64 qb, .bool gb, .slice Ab nb cb, .slice Cb mb db, .int .i64 rb]); (with_reducible refine (Vld.call hvb.out (by repeat' (first | exact Plus.refl _ | refine Plus.alloc ?_ _ | refine Plus.plus ?_ _ | refine Plus.drew ?_ | refine Plus.drewN ?_ _))).mono ?_); rintro e w1 ⟨rfl, ⟨y1, rfl⟩⟩))
    all_goals
      go_wp2_with fail
      go_meet
      exact ⟨_, _, rfl⟩
  case rest =>
    obtain ⟨x1, x2, rfl⟩ := hcut
    go_wp2_with fail
    go_returns
    exact ⟨rfl, (by repeat' (first | exact Plus.refl _ | refine Plus.alloc ?_ _ | refine Plus.plus ?_ _ | refine Plus.drew ?_ | refine Plus.drewN ?_ _))⟩
theorem nequal_v {k n l m : Int} {b : Bool} (h : Hid (equalR k n l m = b)) (w : World) : Calls Tryz.prog 74 #[.agg #[.int .i64 k, .int .i64 n], .agg #[.int .i64 l, .int .i64 m]] w fun e w' => e = .returned (.bool b) ∧ Plus w w' := by
  rw [← h.out]
  exact numEqual_c k n l m w
set_option maxRecDepth 100000 in
set_option maxHeartbeats 4000000 in
theorem strict_3 {ka pa qa : Int} {ga : Bool} {Aa Ca : Option Addr} {na ca ma da : Nat} {ra : Int} {kb pb qb : Int} {gb : Bool} {Ab Cb : Option Addr} {nb cb mb db : Nat} {rb : Int} {p2 q2 : Int} {g2 : Bool} {A2 C2 : Option Addr} {n2 c2 m2 d2 : Nat} {r2 : Int} {p3 q3 : Int} {g3 : Bool} {A3 C3 : Option Addr} {n3 c3 m3 d3 : Nat} {r3 : Int} {b : Bool} (w : World) (hva : Hid (Vld w (Value.agg #[.int .i64 ka, .int .i64 pa, .int .i64 qa, .bool ga, .slice Aa na ca, .slice Ca ma da, .int .i64 ra]) (Value.agg #[.int .i64 3, .int .i64 p2, .int .i64 q2, .bool g2, .slice A2 n2 c2, .slice C2 m2 d2, .int .i64 r2]))) (hvb : Hid (Vld w (Value.agg #[.int .i64 kb, .int .i64 pb, .int .i64 qb, .bool gb, .slice Ab nb cb, .slice Cb mb db, .int .i64 rb]) (Value.agg #[.int .i64 3, .int .i64 p3, .int .i64 q3, .bool g3, .slice A3 n3 c3, .slice C3 m3 d3, .int .i64 r3]))) (hb : Hid (equalR p2 q2 p3 q3 = b)) : Calls Tryz.prog 29 #[Value.agg #[.int .i64 ka, .int .i64 pa, .int .i64 qa, .bool ga, .slice Aa na ca, .slice Ca ma da, .int .i64 ra], Value.agg #[.int .i64 kb, .int .i64 pb, .int .i64 qb, .bool gb, .slice Ab nb cb, .slice Cb mb db, .int .i64 rb]] w fun e w' => e = .returned (.bool b) ∧ Plus w w' := by
  go_enter Tryz.func29, Tryz.ntmps29
  go_upto_region 1 with fail
  go_cut [] (fun wx => ∃ x1 x2, wx = plus (plus ((w.alloc (.cells #[.int .i64 3, .int .i64 p2, .int .i64 q2, .bool g2, .slice A2 n2 c2, .slice C2 m2 d2, .int .i64 r2] 29)).alloc (.cells #[.int .i64 3, .int .i64 p3, .int .i64 q3, .bool g3, .slice A3 n3 c3, .slice C3 m3 d3, .int .i64 r3] 29)) x1) x2)
  case first =>
    go_region_with (first | (go_at_call_of 43 (Value.agg #[.int .i64 ka, .int .i64 pa, .int .i64 qa, .bool ga, .slice Aa na ca, .slice Ca ma da, .int .i64 ra]); (with_reducible refine (Vld.call hva.out (by repeat' (first | exact Plus.refl _ | refine Plus.alloc ?_ _ | refine Plus.plus ?_ _ | refine Plus.drew ?_ | refine Plus.drewN ?_ _))).mono ?_); rintro e w1 ⟨rfl, ⟨x1, rfl⟩⟩) | (go_at_call_of 43 (Value.agg #[.int .i64 kb, .int .i64 pb, .int .i64 qb, .bool gb, .slice Ab nb cb, .slice Cb mb db, .int .i64 rb]); (with_reducible refine (Vld.call hvb.out (by repeat' (first | exact Plus.refl _ | refine Plus.alloc ?_ _ | refine Plus.plus ?_ _ | refine Plus.drew ?_ | refine Plus.drewN ?_ _))).mono ?_); rintro e w1 ⟨rfl, ⟨y1, rfl⟩⟩))
    all_goals
      go_wp2_with fail
      go_meet
      exact ⟨_, _, rfl⟩
  case rest =>
    obtain ⟨x1, x2, rfl⟩ := hcut
    go_wp2_with (go_at_call 74; (with_reducible refine (nequal_v hb _).mono ?_); rintro e w1 ⟨rfl, ⟨x3, rfl⟩⟩)
    go_returns
    exact ⟨rfl, (by repeat' (first | exact Plus.refl _ | refine Plus.alloc ?_ _ | refine Plus.plus ?_ _ | refine Plus.drew ?_ | refine Plus.drewN ?_ _))⟩
set_option maxRecDepth 100000 in
set_option maxHeartbeats 4000000 in
theorem strict_s {ka pa qa : Int} {ga : Bool} {Aa Ca : Option Addr} {na ca ma da : Nat} {ra : Int} {kb pb qb : Int} {gb : Bool} {Ab Cb : Option Addr} {nb cb mb db : Nat} {rb : Int} {k2 p2 q2 : Int} {g2 : Bool} {A2 C2 : Option Addr} {xs2 us2 : List Nat} {n2 c2 m2 d2 : Nat} {r2 : Int} {p3 q3 : Int} {g3 : Bool} {A3 C3 : Option Addr} {xs3 us3 : List Nat} {n3 c3 m3 d3 : Nat} {r3 : Int} {z : Bool} (w : World) (hva : Hid (Vld w (Value.agg #[.int .i64 ka, .int .i64 pa, .int .i64 qa, .bool ga, .slice Aa na ca, .slice Ca ma da, .int .i64 ra]) (Value.agg #[.int .i64 k2, .int .i64 p2, .int .i64 q2, .bool g2, .slice A2 n2 c2, .slice C2 m2 d2, .int .i64 r2]))) (hvb : Hid (Vld w (Value.agg #[.int .i64 kb, .int .i64 pb, .int .i64 qb, .bool gb, .slice Ab nb cb, .slice Cb mb db, .int .i64 rb]) (Value.agg #[.int .i64 k2, .int .i64 p3, .int .i64 q3, .bool g3, .slice A3 n3 c3, .slice C3 m3 d3, .int .i64 r3]))) (h2 : Hid (VM w A2 xs2 n2 c2 C2 us2 m2 d2)) (h3 : Hid (VM w A3 xs3 n3 c3 C3 us3 m3 d3)) (b0 : (k2 == 3) = false) (hz : Hid (sameV k2 p2 q2 g2 xs2 us2 r2 k2 p3 q3 g3 xs3 us3 r3 = z)) : Calls Tryz.prog 29 #[Value.agg #[.int .i64 ka, .int .i64 pa, .int .i64 qa, .bool ga, .slice Aa na ca, .slice Ca ma da, .int .i64 ra], Value.agg #[.int .i64 kb, .int .i64 pb, .int .i64 qb, .bool gb, .slice Ab nb cb, .slice Cb mb db, .int .i64 rb]] w fun e w' => e = .returned (.bool z) ∧ Plus w w' := by
  go_enter Tryz.func29, Tryz.ntmps29
  go_upto_region 1 with fail
  go_cut [] (fun wx => ∃ x1 x2, wx = plus (plus ((w.alloc (.cells #[.int .i64 k2, .int .i64 p2, .int .i64 q2, .bool g2, .slice A2 n2 c2, .slice C2 m2 d2, .int .i64 r2] 29)).alloc (.cells #[.int .i64 k2, .int .i64 p3, .int .i64 q3, .bool g3, .slice A3 n3 c3, .slice C3 m3 d3, .int .i64 r3] 29)) x1) x2)
  case first =>
    go_region_with (first | (go_at_call_of 43 (Value.agg #[.int .i64 ka, .int .i64 pa, .int .i64 qa, .bool ga, .slice Aa na ca, .slice Ca ma da, .int .i64 ra]); (with_reducible refine (Vld.call hva.out (by repeat' (first | exact Plus.refl _ | refine Plus.alloc ?_ _ | refine Plus.plus ?_ _ | refine Plus.drew ?_ | refine Plus.drewN ?_ _))).mono ?_); rintro e w1 ⟨rfl, ⟨x1, rfl⟩⟩) | (go_at_call_of 43 (Value.agg #[.int .i64 kb, .int .i64 pb, .int .i64 qb, .bool gb, .slice Ab nb cb, .slice Cb mb db, .int .i64 rb]); (with_reducible refine (Vld.call hvb.out (by repeat' (first | exact Plus.refl _ | refine Plus.alloc ?_ _ | refine Plus.plus ?_ _ | refine Plus.drew ?_ | refine Plus.drewN ?_ _))).mono ?_); rintro e w1 ⟨rfl, ⟨y1, rfl⟩⟩))
    all_goals
      go_wp2_with fail
      go_meet
      exact ⟨_, _, rfl⟩
  case rest =>
    obtain ⟨x1, x2, rfl⟩ := hcut
    go_wp2_with (go_at_call 75; (with_reducible refine (hsame_v hz _ (h2.out.plus (by repeat' (first | exact Plus.refl _ | refine Plus.alloc ?_ _ | refine Plus.plus ?_ _ | refine Plus.drew ?_ | refine Plus.drewN ?_ _))) (h3.out.plus (by repeat' (first | exact Plus.refl _ | refine Plus.alloc ?_ _ | refine Plus.plus ?_ _ | refine Plus.drew ?_ | refine Plus.drewN ?_ _)))).mono ?_); rintro e w1 ⟨rfl, ⟨x3, rfl⟩⟩)
    go_returns
    exact ⟨rfl, (by repeat' (first | exact Plus.refl _ | refine Plus.alloc ?_ _ | refine Plus.plus ?_ _ | refine Plus.drew ?_ | refine Plus.drewN ?_ _))⟩
def strictJ : JV → JV → Bool
  | .undef, .undef => true
  | .null, .null => true
  | .bool a, .bool b => a == b
  | .num p q, .num r s => equalS p q r s
  | .big a, .big b => decide (a = b)
  | .text u, .text v => decide (u = v)
  | .obj a, .obj b => decide (a = b)
  | _, _ => false
def strictV (k p q : Int) (g : Bool) (xs us : List Nat) (r k2 p2 q2 : Int) (g2 : Bool) (xs2 us2 : List Nat) (r2 : Int) : Bool :=
  if k = k2 then (if k = 3 then equalR p q p2 q2 else sameV k p q g xs us r k2 p2 q2 g2 xs2 us2 r2) else false
theorem big_inj {g h : Bool} {xs ys : List Nat} (o1 : Bg.okL xs) (o2 : Bg.okL ys) (h1 : Bg.mayL g xs = true) (h2 : Bg.mayL h ys = true) : (Bg.bigI g xs = Bg.bigI h ys) ↔ (g = h ∧ xs = ys) := by
  constructor
  · intro e
    obtain ⟨a1, a2, _⟩ := Bg.may_yes o1 h1
    obtain ⟨b1, b2, _⟩ := Bg.may_yes o2 h2
    rw [e] at a1 a2
    exact ⟨a2.trans b2.symm, a1.trans b1.symm⟩
  · rintro ⟨rfl, rfl⟩; rfl
set_option maxRecDepth 100000 in
theorem strictV_jv {k p q : Int} {g : Bool} {xs us : List Nat} {r k2 p2 q2 : Int} {g2 : Bool} {xs2 us2 : List Nat} {r2 : Int} (o1 : Bg.okL xs) (o2 : Bg.okL xs2) (h : mayV k p q g xs us r = true) (h2 : mayV k2 p2 q2 g2 xs2 us2 r2 = true) :
    strictV k p q g xs us r k2 p2 q2 g2 xs2 us2 r2 = strictJ (jv k p q g xs us r) (jv k2 p2 q2 g2 xs2 us2 r2) := by
  unfold jv strictV
  rw [if_pos h, if_pos h2]
  rcases mayV_cases h with ⟨hk, rfl, rfl, rfl, rfl, rfl, rfl⟩ | ⟨rfl, rfl, rfl, rfl, rfl, rfl, hr⟩ | ⟨rfl, hb, rfl, rfl, rfl, rfl⟩ | ⟨rfl, rfl, rfl, hb, rfl, rfl⟩ | ⟨rfl, rfl, rfl, rfl, rfl, hb, rfl⟩ | ⟨rfl, rfl, rfl, rfl, rfl, rfl, hr⟩ <;>
    rcases mayV_cases h2 with ⟨hk2, rfl, rfl, rfl, rfl, rfl, rfl⟩ | ⟨rfl, rfl, rfl, rfl, rfl, rfl, hr2⟩ | ⟨rfl, hb2, rfl, rfl, rfl, rfl⟩ | ⟨rfl, rfl, rfl, hb2, rfl, rfl⟩ | ⟨rfl, rfl, rfl, rfl, rfl, hb2, rfl⟩ | ⟨rfl, rfl, rfl, rfl, rfl, rfl, hr2⟩
  all_goals first
    | (rcases hk with rfl | rfl <;> rcases hk2 with rfl | rfl <;> decide)
    | (rcases hk with rfl | rfl <;> simp [strictJ])
    | (rcases hk2 with rfl | rfl <;> simp [strictJ])
    | (rcases hr with rfl | rfl <;> rcases hr2 with rfl | rfl <;> decide)
    | (simp [strictJ]; done)
    | (simp only [strictJ, if_true, equalR, vk_of (isV_of_mayB hb), vn_of (isV_of_mayB hb), vk_of (isV_of_mayB hb2), vn_of (isV_of_mayB hb2)]; simp; done)
    | (simp [strictJ, sameV, big_inj o1 o2 hb hb2]; done)
    | (simp [strictJ, sameV]; done)
theorem cstrict_v {ka pa qa : Int} {ga : Bool} {Aa Ca : Option Addr} {na ca ma da : Nat} {ra : Int} {kb pb qb : Int} {gb : Bool} {Ab Cb : Option Addr} {nb cb mb db : Nat} {rb : Int} {u v : Value} {x y : JV} {z : Bool} (hz : Hid (strictJ x y = z)) (w : World) (hx : NV w u x) (hy : NV w v y) (hva : Vld w (Value.agg #[.int .i64 ka, .int .i64 pa, .int .i64 qa, .bool ga, .slice Aa na ca, .slice Ca ma da, .int .i64 ra]) u) (hvb : Vld w (Value.agg #[.int .i64 kb, .int .i64 pb, .int .i64 qb, .bool gb, .slice Ab nb cb, .slice Cb mb db, .int .i64 rb]) v) : Calls Tryz.prog 29 #[Value.agg #[.int .i64 ka, .int .i64 pa, .int .i64 qa, .bool ga, .slice Aa na ca, .slice Ca ma da, .int .i64 ra], Value.agg #[.int .i64 kb, .int .i64 pb, .int .i64 qb, .bool gb, .slice Ab nb cb, .slice Cb mb db, .int .i64 rb]] w fun e w' => e = .returned (.bool z) ∧ Plus w w' := by
  obtain ⟨k2, p2, q2, g2, A2, C2, xs2, us2, n2, c2, m2, d2, r2, rfl, m2', _, e2, f2⟩ := hx.gen
  obtain ⟨k3, p3, q3, g3, A3, C3, xs3, us3, n3, c3, m3, d3, r3, rfl, m3', _, e3, f3⟩ := hy.gen
  have q := strictV_jv m2'.b.bd m3'.b.bd f2 f3
  rw [e2, e3, hz.out] at q
  subst q
  unfold strictV
  by_cases hk : k2 = k3
  · subst hk
    rw [if_pos rfl]
    by_cases h3 : k2 = 3
    · subst h3
      rw [if_pos rfl]
      exact strict_3 w (Lib.hid hva) (Lib.hid hvb) (Lib.hid rfl)
    · rw [if_neg h3]
      exact strict_s w (Lib.hid hva) (Lib.hid hvb) (Lib.hid m2') (Lib.hid m3') (beq_f h3) (Lib.hid rfl)
  · rw [if_neg hk]
    exact strict_d w (Lib.hid hva) (Lib.hid hvb) (by simp [hk])
end Go.Proofs.YtakahpbondaidaaGreatDoor
namespace Go.Proofs.YtakahpbondaidaaGreatDoor
open Go.RowKit

set_option maxRecDepth 100000 in
set_option maxHeartbeats 4000000 in
theorem noth_0 {p q : Int} {g : Bool} {A C : Option Addr} {n c m d : Nat} {r : Int} (w : World) : Calls Tryz.prog 69 #[Value.agg #[.int .i64 0, .int .i64 p, .int .i64 q, .bool g, .slice A n c, .slice C m d, .int .i64 r]] w fun e w' => e = .returned (.bool true) ∧ Plus w w' := by
  go_enter Tryz.func69, Tryz.ntmps69
  go_wp2_with fail
  go_returns
  exact ⟨rfl, (by repeat' (first | exact Plus.refl _ | refine Plus.alloc ?_ _ | refine Plus.plus ?_ _ | refine Plus.drew ?_ | refine Plus.drewN ?_ _))⟩
set_option maxRecDepth 100000 in
set_option maxHeartbeats 4000000 in
theorem noth_1 {p q : Int} {g : Bool} {A C : Option Addr} {n c m d : Nat} {r : Int} (w : World) : Calls Tryz.prog 69 #[Value.agg #[.int .i64 1, .int .i64 p, .int .i64 q, .bool g, .slice A n c, .slice C m d, .int .i64 r]] w fun e w' => e = .returned (.bool true) ∧ Plus w w' := by
  go_enter Tryz.func69, Tryz.ntmps69
  go_wp2_with fail
  go_returns
  exact ⟨rfl, (by repeat' (first | exact Plus.refl _ | refine Plus.alloc ?_ _ | refine Plus.plus ?_ _ | refine Plus.drew ?_ | refine Plus.drewN ?_ _))⟩
set_option maxRecDepth 100000 in
set_option maxHeartbeats 4000000 in
theorem noth_o {k p q : Int} {g : Bool} {A C : Option Addr} {n c m d : Nat} {r : Int} (w : World) (b0 : (k == 0) = false) (b1 : (k == 1) = false) : Calls Tryz.prog 69 #[Value.agg #[.int .i64 k, .int .i64 p, .int .i64 q, .bool g, .slice A n c, .slice C m d, .int .i64 r]] w fun e w' => e = .returned (.bool false) ∧ Plus w w' := by
  go_enter Tryz.func69, Tryz.ntmps69
  go_wp2_with fail
  go_returns
  exact ⟨rfl, (by repeat' (first | exact Plus.refl _ | refine Plus.alloc ?_ _ | refine Plus.plus ?_ _ | refine Plus.drew ?_ | refine Plus.drewN ?_ _))⟩
def nothB (k : Int) : Bool := decide (k = 0 ∨ k = 1)
theorem noth_v {k p q : Int} {g : Bool} {A C : Option Addr} {n c m d : Nat} {r : Int} {z : Bool} (hz : Hid (nothB k = z)) (w : World) : Calls Tryz.prog 69 #[Value.agg #[.int .i64 k, .int .i64 p, .int .i64 q, .bool g, .slice A n c, .slice C m d, .int .i64 r]] w fun e w' => e = .returned (.bool z) ∧ Plus w w' := by
  obtain rfl := hz.out
  by_cases h0 : k = 0
  · subst h0
    exact noth_0 w
  by_cases h1 : k = 1
  · subst h1
    exact noth_1 w
  · rw [show nothB k = false by simp [nothB, h0, h1]]
    exact noth_o w (beq_f h0) (beq_f h1)
theorem cnum_n {p q : Int} (w : World) : Calls Tryz.prog 49 #[.agg #[.int .i64 p, .int .i64 q]] w fun e w' => e = .returned (Value.agg #[.int .i64 3, .int .i64 p, .int .i64 q, .bool false, .slice none 0 0, .slice none 0 0, .int .i64 0]) ∧ Plus w w' := cnum_c p q w
set_option maxRecDepth 100000 in
set_option maxHeartbeats 4000000 in
theorem wob_b {p q : Int} {g : Bool} {A C : Option Addr} {n c m d : Nat} {r : Int} (w : World) : Calls Tryz.prog 70 #[Value.agg #[.int .i64 2, .int .i64 p, .int .i64 q, .bool g, .slice A n c, .slice C m d, .int .i64 r]] w fun e w' => e = .returned (Value.agg #[.int .i64 3, .int .i64 0, .int .i64 r, .bool false, .slice none 0 0, .slice none 0 0, .int .i64 0]) ∧ Plus w w' := by
  go_enter Tryz.func70, Tryz.ntmps70
  go_wp2_with (go_at_call 49; (with_reducible refine (cnum_n _).mono ?_); rintro e w2 ⟨rfl, ⟨x2, rfl⟩⟩)
  go_returns
  exact ⟨rfl, (by repeat' (first | exact Plus.refl _ | refine Plus.alloc ?_ _ | refine Plus.plus ?_ _ | refine Plus.drew ?_ | refine Plus.drewN ?_ _))⟩
set_option maxRecDepth 100000 in
set_option maxHeartbeats 4000000 in
theorem wob_o {k p q : Int} {g : Bool} {A C : Option Addr} {n c m d : Nat} {r : Int} (w : World) (b0 : (k == 2) = false) : Calls Tryz.prog 70 #[Value.agg #[.int .i64 k, .int .i64 p, .int .i64 q, .bool g, .slice A n c, .slice C m d, .int .i64 r]] w fun e w' => e = .returned (Value.agg #[.int .i64 k, .int .i64 p, .int .i64 q, .bool g, .slice A n c, .slice C m d, .int .i64 r]) ∧ Plus w w' := by
  go_enter Tryz.func70, Tryz.ntmps70
  go_wp2_with fail
  go_returns
  exact ⟨rfl, (by repeat' (first | exact Plus.refl _ | refine Plus.alloc ?_ _ | refine Plus.plus ?_ _ | refine Plus.drew ?_ | refine Plus.drewN ?_ _))⟩
theorem bof_v {z : Int} {r : Int} {pb : Bool} {us : List Nat} (hr : Hid (Bg.OfN z r pb us)) (w : World) : Calls Tryz.prog 51 #[.int .i64 z] w fun e w' => ∃ (A1 : Option Addr) (c1 : Nat), e = .returned (.agg #[.bool pb, .slice A1 us.length c1]) ∧ Bg.Arg w' A1 us us.length c1 ∧ Plus w w' := Bg.of_n hr w
set_option maxRecDepth 100000 in
set_option maxHeartbeats 4000000 in
theorem worth_0 {q : Int} {g pb z : Bool} {A : Option Addr} {xs us : List Nat} {n c : Nat} {r b : Int} (hO : Hid (Bg.OfN q r pb us)) (hP : Hid (Bg.bigI pb us = r)) (hB : Hid (Bg.bigI g xs = b)) (hz : Hid (decide (r = b) = z)) (w : World) (hb : Hid (Bg.Arg w A xs n c)) : Calls Tryz.prog 71 #[.agg #[.int .i64 0, .int .i64 q], .agg #[.bool g, .slice A n c]] w fun e w' => e = .returned (.bool z) ∧ Plus w w' := by
  go_enter Tryz.func71, Tryz.ntmps71
  go_wp2_with fail
  go_region_with (first | (go_at_call 51; (with_reducible refine (bof_v hO _).mono ?_); rintro e w1 ⟨A1, c1, rfl, ha1, ⟨x1, rfl⟩⟩; have HA1 := Lib.hid ha1; clear ha1) | (go_at_call 67; (with_reducible refine (bsame_v hP hB hz _ (by have q := HA1.out; (try simp only [plus_drew] at q ⊢); exact q) (hb.out.plus (by repeat' (first | exact Plus.refl _ | refine Plus.alloc ?_ _ | refine Plus.plus ?_ _ | refine Plus.drew ?_ | refine Plus.drewN ?_ _)))).mono ?_); rintro e w2 ⟨rfl, ⟨x2, rfl⟩⟩))
  all_goals go_wp2_with fail
  all_goals go_returns
  all_goals exact ⟨rfl, (by repeat' (first | exact Plus.refl _ | refine Plus.alloc ?_ _ | refine Plus.plus ?_ _ | refine Plus.drew ?_ | refine Plus.drewN ?_ _))⟩
set_option maxRecDepth 100000 in
set_option maxHeartbeats 4000000 in
theorem worth_1 {q : Int} {g pb z : Bool} {A : Option Addr} {xs us : List Nat} {n c : Nat} {r b : Int} (hO : Hid (Bg.OfN q r pb us)) (hP : Hid (Bg.bigI pb us = r)) (hB : Hid (Bg.bigI g xs = b)) (hz : Hid (decide (r = b) = z)) (w : World) (hb : Hid (Bg.Arg w A xs n c)) : Calls Tryz.prog 71 #[.agg #[.int .i64 1, .int .i64 q], .agg #[.bool g, .slice A n c]] w fun e w' => e = .returned (.bool z) ∧ Plus w w' := by
  go_enter Tryz.func71, Tryz.ntmps71
  go_wp2_with fail
  go_region_with (first | (go_at_call 51; (with_reducible refine (bof_v hO _).mono ?_); rintro e w1 ⟨A1, c1, rfl, ha1, ⟨x1, rfl⟩⟩; have HA1 := Lib.hid ha1; clear ha1) | (go_at_call 67; (with_reducible refine (bsame_v hP hB hz _ (by have q := HA1.out; (try simp only [plus_drew] at q ⊢); exact q) (hb.out.plus (by repeat' (first | exact Plus.refl _ | refine Plus.alloc ?_ _ | refine Plus.plus ?_ _ | refine Plus.drew ?_ | refine Plus.drewN ?_ _)))).mono ?_); rintro e w2 ⟨rfl, ⟨x2, rfl⟩⟩))
  all_goals go_wp2_with fail
  all_goals go_returns
  all_goals exact ⟨rfl, (by repeat' (first | exact Plus.refl _ | refine Plus.alloc ?_ _ | refine Plus.plus ?_ _ | refine Plus.drew ?_ | refine Plus.drewN ?_ _))⟩
set_option maxRecDepth 100000 in
set_option maxHeartbeats 4000000 in
theorem worth_o {p q : Int} {g : Bool} {A : Option Addr} {n c : Nat} (w : World) (b0 : (p == 0) = false) (b1 : (p == 1) = false) : Calls Tryz.prog 71 #[.agg #[.int .i64 p, .int .i64 q], .agg #[.bool g, .slice A n c]] w fun e w' => e = .returned (.bool false) ∧ Plus w w' := by
  go_enter Tryz.func71, Tryz.ntmps71
  go_wp2_with fail
  go_returns
  exact ⟨rfl, (by repeat' (first | exact Plus.refl _ | refine Plus.alloc ?_ _ | refine Plus.plus ?_ _ | refine Plus.drew ?_ | refine Plus.drewN ?_ _))⟩
def worthB (p q b : Int) : Bool := (p == 0 || p == 1) && decide (q = b)
theorem worth_v {p q : Int} {g z : Bool} {A : Option Addr} {xs : List Nat} {n c : Nat} {b : Int} (hB : Hid (Bg.bigI g xs = b)) (hz : Hid (worthB p q b = z)) (h1 : -9007199254740991 ≤ q) (h2 : q ≤ 9007199254740991) (w : World) (hb : Bg.Arg w A xs n c) :
    Calls Tryz.prog 71 #[.agg #[.int .i64 p, .int .i64 q], .agg #[.bool g, .slice A n c]] w fun e w' => e = .returned (.bool z) ∧ Plus w w' := by
  obtain rfl := hz.out
  have hlt : q.natAbs < Bg.B ^ 8 := by
    have : Bg.B ^ 8 = 115792089237316195423570985008687907853269984665640564039457584007913129639936 := by rw [Bg.B_eq]
    omega
  have hN : Bg.Nm q (decide (q < 0)) (Bg.dig q.natAbs) := Bg.Nm.mk' hlt
  have hO : Bg.OfN q q (decide (q < 0)) (Bg.dig q.natAbs) := ⟨hN, rfl, by omega, by omega⟩
  by_cases p0 : p = 0
  · subst p0
    exact worth_0 (Lib.hid hO) (Lib.hid hN.val) hB (Lib.hid (by simp [worthB])) w (Lib.hid hb)
  by_cases p1 : p = 1
  · subst p1
    exact worth_1 (Lib.hid hO) (Lib.hid hN.val) hB (Lib.hid (by simp [worthB])) w (Lib.hid hb)
  · rw [show worthB p q b = false by simp [worthB, p0, p1]]
    exact worth_o w (beq_f p0) (beq_f p1)
set_option maxRecDepth 100000 in
set_option maxHeartbeats 4000000 in
theorem reads_s {p q a b s : Int} {C : Option Addr} {us : List Nat} {m d : Nat} (hu : Hid (nofU us = ⟨a, b, s⟩)) (hm : m ≤ 4096) (w : World) (hL : Hid (Lai w)) (hs : Hid (Ar .u16 65536 w C us m d)) (b0 : (s == 0) = false) : Calls Tryz.prog 72 #[.slice C m d, .agg #[.int .i64 p, .int .i64 q]] w fun e w' => e = .returned (.tuple #[.bool false, .int .i64 s]) ∧ Plus w w' := by
  go_enter Tryz.func72, Tryz.ntmps72
  go_wp2_with (go_at_call 44; (with_reducible refine (numberOf_v hu _ (hL.out.plus (by repeat' (first | exact Plus.refl _ | refine Plus.alloc ?_ _ | refine Plus.plus ?_ _ | refine Plus.drew ?_ | refine Plus.drewN ?_ _))) (hs.out.plus (by repeat' (first | exact Plus.refl _ | refine Plus.alloc ?_ _ | refine Plus.plus ?_ _ | refine Plus.drew ?_ | refine Plus.drewN ?_ _))) (by omega)).mono ?_); rintro e w1 ⟨rfl, ⟨x1, rfl⟩⟩)
  go_returns
  exact ⟨rfl, (by repeat' (first | exact Plus.refl _ | refine Plus.alloc ?_ _ | refine Plus.plus ?_ _ | refine Plus.drew ?_ | refine Plus.drewN ?_ _))⟩
set_option maxRecDepth 100000 in
set_option maxHeartbeats 4000000 in
theorem reads_y {p q a b : Int} {z : Bool} {C : Option Addr} {us : List Nat} {m d : Nat} (hu : Hid (nofU us = ⟨a, b, 0⟩)) (hm : m ≤ 4096) (w : World) (hL : Hid (Lai w)) (hs : Hid (Ar .u16 65536 w C us m d)) (hq : Hid (equalR p q a b = z)) : Calls Tryz.prog 72 #[.slice C m d, .agg #[.int .i64 p, .int .i64 q]] w fun e w' => e = .returned (.tuple #[.bool z, .int .i64 0]) ∧ Plus w w' := by
  go_enter Tryz.func72, Tryz.ntmps72
  go_wp2_with (first | (go_at_call 44; (with_reducible refine (numberOf_v hu _ (hL.out.plus (by repeat' (first | exact Plus.refl _ | refine Plus.alloc ?_ _ | refine Plus.plus ?_ _ | refine Plus.drew ?_ | refine Plus.drewN ?_ _))) (hs.out.plus (by repeat' (first | exact Plus.refl _ | refine Plus.alloc ?_ _ | refine Plus.plus ?_ _ | refine Plus.drew ?_ | refine Plus.drewN ?_ _))) (by omega)).mono ?_); rintro e w1 ⟨rfl, ⟨x1, rfl⟩⟩) | (go_at_call 74; (with_reducible refine (nequal_v hq _).mono ?_); rintro e w2 ⟨rfl, ⟨x2, rfl⟩⟩))
  go_returns
  exact ⟨rfl, (by repeat' (first | exact Plus.refl _ | refine Plus.alloc ?_ _ | refine Plus.plus ?_ _ | refine Plus.drew ?_ | refine Plus.drewN ?_ _))⟩
/-- A truth and a signal. -/
structure B2 where
  b : Bool
  s : Int
def readsU (p q : Int) (us : List Nat) : B2 := ⟨(nofU us).s == 0 && equalR p q (nofU us).k (nofU us).n, (nofU us).s⟩
theorem reads_v {p q s : Int} {z : Bool} {C : Option Addr} {us : List Nat} {m d : Nat} (hr : Hid (readsU p q us = ⟨z, s⟩)) (hm : m ≤ 4096) (w : World) (hL : Lai w) (hs : Ar .u16 65536 w C us m d) :
    Calls Tryz.prog 72 #[.slice C m d, .agg #[.int .i64 p, .int .i64 q]] w fun e w' => e = .returned (.tuple #[.bool z, .int .i64 s]) ∧ Plus w w' := by
  obtain ⟨a, b, z', hu⟩ : ∃ a b z', nofU us = ⟨a, b, z'⟩ := ⟨_, _, _, rfl⟩
  have q := hr.out
  unfold readsU at q
  rw [hu] at q
  simp only [B2.mk.injEq] at q
  obtain ⟨rfl, rfl⟩ := q
  by_cases h0 : z' = 0
  · subst h0
    exact reads_y (Lib.hid hu) hm w (Lib.hid hL) (Lib.hid hs) (Lib.hid (by simp))
  · rw [beq_f h0, Bool.false_and]
    exact reads_s (Lib.hid hu) hm w (Lib.hid hL) (Lib.hid hs) (beq_f h0)
theorem nv_num {p q : Int} (w : World) (h : IsV p q) : NV w (Value.agg #[.int .i64 3, .int .i64 p, .int .i64 q, .bool false, .slice none 0 0, .slice none 0 0, .int .i64 0]) (.num p q) := ⟨none, none, 0, 0, rfl, by omega, by omega, h⟩
theorem isV_bd {p q : Int} (h : IsV p q) : -9007199254740991 ≤ q ∧ q ≤ 9007199254740991 := by
  rcases h with ⟨_, h1, h2⟩ | ⟨_, h⟩ | ⟨_, h⟩ | ⟨_, h⟩ | ⟨_, h⟩ <;> omega
end Go.Proofs.YtakahpbondaidaaGreatDoor
namespace Go.Proofs.YtakahpbondaidaaGreatDoor
open Go.RowKit

set_option maxRecDepth 100000 in
set_option maxHeartbeats 4000000 in
theorem loose_n1 {ka pa qa : Int} {ga : Bool} {Aa Ca : Option Addr} {na ca ma da : Nat} {ra : Int} {kb pb qb : Int} {gb : Bool} {Ab Cb : Option Addr} {nb cb mb db : Nat} {rb : Int} {k2 p2 q2 : Int} {g2 : Bool} {A2 C2 : Option Addr} {n2 c2 m2 d2 : Nat} {r2 : Int} {k3 p3 q3 : Int} {g3 : Bool} {A3 C3 : Option Addr} {n3 c3 m3 d3 : Nat} {r3 : Int} {z : Bool} (w : World) (hva : Hid (Vld w (Value.agg #[.int .i64 ka, .int .i64 pa, .int .i64 qa, .bool ga, .slice Aa na ca, .slice Ca ma da, .int .i64 ra]) (Value.agg #[.int .i64 k2, .int .i64 p2, .int .i64 q2, .bool g2, .slice A2 n2 c2, .slice C2 m2 d2, .int .i64 r2]))) (hvb : Hid (Vld w (Value.agg #[.int .i64 kb, .int .i64 pb, .int .i64 qb, .bool gb, .slice Ab nb cb, .slice Cb mb db, .int .i64 rb]) (Value.agg #[.int .i64 k3, .int .i64 p3, .int .i64 q3, .bool g3, .slice A3 n3 c3, .slice C3 m3 d3, .int .i64 r3]))) (b0 : (k2 == k3) = false) (b1 : Hid (nothB k2 = true)) (b2 : Hid (nothB k3 = z)) : Calls Tryz.prog 27 #[Value.agg #[.int .i64 ka, .int .i64 pa, .int .i64 qa, .bool ga, .slice Aa na ca, .slice Ca ma da, .int .i64 ra], Value.agg #[.int .i64 kb, .int .i64 pb, .int .i64 qb, .bool gb, .slice Ab nb cb, .slice Cb mb db, .int .i64 rb]] w fun e w' => e = .returned (.tuple #[.bool z, .int .i64 0]) ∧ Plus w w' := by
  go_enter Tryz.func27, Tryz.ntmps27
  go_upto_region 1 with fail
  go_cut [] (fun wx => Plus ((w.alloc (.cells #[.int .i64 k2, .int .i64 p2, .int .i64 q2, .bool g2, .slice A2 n2 c2, .slice C2 m2 d2, .int .i64 r2] 29)).alloc (.cells #[.int .i64 k3, .int .i64 p3, .int .i64 q3, .bool g3, .slice A3 n3 c3, .slice C3 m3 d3, .int .i64 r3] 29)) wx)
  case first =>
    go_region_with (first | (go_at_call_of 43 (Value.agg #[.int .i64 ka, .int .i64 pa, .int .i64 qa, .bool ga, .slice Aa na ca, .slice Ca ma da, .int .i64 ra]); (with_reducible refine (Vld.call hva.out (by repeat' (first | exact Plus.refl _ | refine Plus.alloc ?_ _ | refine Plus.plus ?_ _ | refine Plus.drew ?_ | refine Plus.drewN ?_ _))).mono ?_); rintro e w1 ⟨rfl, ⟨y1, rfl⟩⟩) | (go_at_call_of 43 (Value.agg #[.int .i64 kb, .int .i64 pb, .int .i64 qb, .bool gb, .slice Ab nb cb, .slice Cb mb db, .int .i64 rb]); (with_reducible refine (Vld.call hvb.out (by repeat' (first | exact Plus.refl _ | refine Plus.alloc ?_ _ | refine Plus.plus ?_ _ | refine Plus.drew ?_ | refine Plus.drewN ?_ _))).mono ?_); rintro e w1 ⟨rfl, ⟨y2, rfl⟩⟩))
    all_goals
      go_wp2_with fail
      go_meet
      exact (by repeat' (first | exact Plus.refl _ | refine Plus.alloc ?_ _ | refine Plus.plus ?_ _ | refine Plus.drew ?_ | refine Plus.drewN ?_ _))
  case rest =>
    obtain ⟨x1, rfl⟩ := hcut
    go_wp2_with (first | (go_at_call_of 69 (Value.agg #[.int .i64 k2, .int .i64 p2, .int .i64 q2, .bool g2, .slice A2 n2 c2, .slice C2 m2 d2, .int .i64 r2]); (with_reducible refine (noth_v b1 _).mono ?_); rintro e w2 ⟨rfl, ⟨x3, rfl⟩⟩) | (go_at_call_of 69 (Value.agg #[.int .i64 k3, .int .i64 p3, .int .i64 q3, .bool g3, .slice A3 n3 c3, .slice C3 m3 d3, .int .i64 r3]); (with_reducible refine (noth_v b2 _).mono ?_); rintro e w2 ⟨rfl, ⟨x3, rfl⟩⟩))
    go_returns
    exact ⟨rfl, (by repeat' (first | exact Plus.refl _ | refine Plus.alloc ?_ _ | refine Plus.plus ?_ _ | refine Plus.drew ?_ | refine Plus.drewN ?_ _))⟩
set_option maxRecDepth 100000 in
set_option maxHeartbeats 4000000 in
theorem loose_43 {ka pa qa : Int} {ga : Bool} {Aa Ca : Option Addr} {na ca ma da : Nat} {ra : Int} {kb pb qb : Int} {gb : Bool} {Ab Cb : Option Addr} {nb cb mb db : Nat} {rb : Int} {A2 C2 : Option Addr} {c2 d2 : Nat} {g2 : Bool} {n2 : Nat} {A3 C3 : Option Addr} {c3 d3 : Nat} {p3 q3 : Int} {z : Bool} {zb : Int} {xs2 : List Nat} (w : World) (hva : Hid (Vld w (Value.agg #[.int .i64 ka, .int .i64 pa, .int .i64 qa, .bool ga, .slice Aa na ca, .slice Ca ma da, .int .i64 ra]) (Value.agg #[.int .i64 4, .int .i64 0, .int .i64 0, .bool g2, .slice A2 n2 c2, .slice C2 0 d2, .int .i64 0]))) (hvb : Hid (Vld w (Value.agg #[.int .i64 kb, .int .i64 pb, .int .i64 qb, .bool gb, .slice Ab nb cb, .slice Cb mb db, .int .i64 rb]) (Value.agg #[.int .i64 3, .int .i64 p3, .int .i64 q3, .bool false, .slice A3 0 c3, .slice C3 0 d3, .int .i64 0]))) (b2 : Hid (nothB 4 = false)) (b3 : Hid (nothB 3 = false)) (hB : Hid (Bg.bigI g2 xs2 = zb)) (hz : Hid (worthB p3 q3 zb = z)) (l1 : -9007199254740991 ≤ q3) (l2 : q3 ≤ 9007199254740991) (hb : Hid (Bg.Arg w A2 xs2 n2 c2)) : Calls Tryz.prog 27 #[Value.agg #[.int .i64 ka, .int .i64 pa, .int .i64 qa, .bool ga, .slice Aa na ca, .slice Ca ma da, .int .i64 ra], Value.agg #[.int .i64 kb, .int .i64 pb, .int .i64 qb, .bool gb, .slice Ab nb cb, .slice Cb mb db, .int .i64 rb]] w fun e w' => e = .returned (.tuple #[.bool z, .int .i64 0]) ∧ Plus w w' := by
  go_enter Tryz.func27, Tryz.ntmps27
  go_upto_region 1 with fail
  go_cut [] (fun wx => Plus ((w.alloc (.cells #[.int .i64 4, .int .i64 0, .int .i64 0, .bool g2, .slice A2 n2 c2, .slice C2 0 d2, .int .i64 0] 29)).alloc (.cells #[.int .i64 3, .int .i64 p3, .int .i64 q3, .bool false, .slice A3 0 c3, .slice C3 0 d3, .int .i64 0] 29)) wx)
  case first =>
    go_region_with (first | (go_at_call_of 43 (Value.agg #[.int .i64 ka, .int .i64 pa, .int .i64 qa, .bool ga, .slice Aa na ca, .slice Ca ma da, .int .i64 ra]); (with_reducible refine (Vld.call hva.out (by repeat' (first | exact Plus.refl _ | refine Plus.alloc ?_ _ | refine Plus.plus ?_ _ | refine Plus.drew ?_ | refine Plus.drewN ?_ _))).mono ?_); rintro e w1 ⟨rfl, ⟨y1, rfl⟩⟩) | (go_at_call_of 43 (Value.agg #[.int .i64 kb, .int .i64 pb, .int .i64 qb, .bool gb, .slice Ab nb cb, .slice Cb mb db, .int .i64 rb]); (with_reducible refine (Vld.call hvb.out (by repeat' (first | exact Plus.refl _ | refine Plus.alloc ?_ _ | refine Plus.plus ?_ _ | refine Plus.drew ?_ | refine Plus.drewN ?_ _))).mono ?_); rintro e w1 ⟨rfl, ⟨y2, rfl⟩⟩))
    all_goals
      go_wp2_with fail
      go_meet
      exact (by repeat' (first | exact Plus.refl _ | refine Plus.alloc ?_ _ | refine Plus.plus ?_ _ | refine Plus.drew ?_ | refine Plus.drewN ?_ _))
  case rest =>
    obtain ⟨x1, rfl⟩ := hcut
    go_upto_region 6 with (first | (go_at_call_of 69 (Value.agg #[.int .i64 4, .int .i64 0, .int .i64 0, .bool g2, .slice A2 n2 c2, .slice C2 0 d2, .int .i64 0]); (with_reducible refine (noth_v b2 _).mono ?_); rintro e w2 ⟨rfl, ⟨x3, rfl⟩⟩) | (go_at_call_of 69 (Value.agg #[.int .i64 3, .int .i64 p3, .int .i64 q3, .bool false, .slice A3 0 c3, .slice C3 0 d3, .int .i64 0]); (with_reducible refine (noth_v b3 _).mono ?_); rintro e w2 ⟨rfl, ⟨x3, rfl⟩⟩))
    go_cut [] (fun wx => Plus ((w.alloc (.cells #[.int .i64 4, .int .i64 0, .int .i64 0, .bool g2, .slice A2 n2 c2, .slice C2 0 d2, .int .i64 0] 29)).alloc (.cells #[.int .i64 3, .int .i64 p3, .int .i64 q3, .bool false, .slice A3 0 c3, .slice C3 0 d3, .int .i64 0] 29)) wx)
    case first =>
      go_region_with (first | (go_at_call_of 70 (Value.agg #[.int .i64 4, .int .i64 0, .int .i64 0, .bool g2, .slice A2 n2 c2, .slice C2 0 d2, .int .i64 0]); (with_reducible refine (wob_o _ (by decide)).mono ?_); rintro e w1 ⟨rfl, ⟨y1, rfl⟩⟩) | (go_at_call_of 70 (Value.agg #[.int .i64 3, .int .i64 p3, .int .i64 q3, .bool false, .slice A3 0 c3, .slice C3 0 d3, .int .i64 0]); (with_reducible refine (wob_o _ (by decide)).mono ?_); rintro e w1 ⟨rfl, ⟨y2, rfl⟩⟩))
      all_goals
        go_wp2_with fail
        go_meet
        exact (by repeat' (first | exact Plus.refl _ | refine Plus.alloc ?_ _ | refine Plus.plus ?_ _ | refine Plus.drew ?_ | refine Plus.drewN ?_ _))
    case rest =>
      obtain ⟨x6, rfl⟩ := hcut
      go_wp2_with (go_at_call 71; (with_reducible refine (worth_v hB hz l1 l2 _ (hb.out.plus (by repeat' (first | exact Plus.refl _ | refine Plus.alloc ?_ _ | refine Plus.plus ?_ _ | refine Plus.drew ?_ | refine Plus.drewN ?_ _)))).mono ?_); rintro e w2 ⟨rfl, ⟨x3, rfl⟩⟩)
      go_returns
      exact ⟨rfl, (by repeat' (first | exact Plus.refl _ | refine Plus.alloc ?_ _ | refine Plus.plus ?_ _ | refine Plus.drew ?_ | refine Plus.drewN ?_ _))⟩
set_option maxRecDepth 100000 in
set_option maxHeartbeats 4000000 in
theorem loose_52 {ka pa qa : Int} {ga : Bool} {Aa Ca : Option Addr} {na ca ma da : Nat} {ra : Int} {kb pb qb : Int} {gb : Bool} {Ab Cb : Option Addr} {nb cb mb db : Nat} {rb : Int} {A2 C2 : Option Addr} {c2 d2 : Nat} {m2 : Nat} {A3 C3 : Option Addr} {c3 d3 : Nat} {r3 : Int} {z : Bool} {sg : Int} {us2 : List Nat} (w : World) (hva : Hid (Vld w (Value.agg #[.int .i64 ka, .int .i64 pa, .int .i64 qa, .bool ga, .slice Aa na ca, .slice Ca ma da, .int .i64 ra]) (Value.agg #[.int .i64 5, .int .i64 0, .int .i64 0, .bool false, .slice A2 0 c2, .slice C2 m2 d2, .int .i64 0]))) (hvb : Hid (Vld w (Value.agg #[.int .i64 kb, .int .i64 pb, .int .i64 qb, .bool gb, .slice Ab nb cb, .slice Cb mb db, .int .i64 rb]) (Value.agg #[.int .i64 2, .int .i64 0, .int .i64 0, .bool false, .slice A3 0 c3, .slice C3 0 d3, .int .i64 r3]))) (b2 : Hid (nothB 5 = false)) (b3 : Hid (nothB 2 = false)) (hz : Hid (readsU 0 r3 us2 = ⟨z, sg⟩)) (hm : m2 ≤ 4096) (hL : Hid (Lai w)) (hs : Hid (Ar .u16 65536 w C2 us2 m2 d2)) : Calls Tryz.prog 27 #[Value.agg #[.int .i64 ka, .int .i64 pa, .int .i64 qa, .bool ga, .slice Aa na ca, .slice Ca ma da, .int .i64 ra], Value.agg #[.int .i64 kb, .int .i64 pb, .int .i64 qb, .bool gb, .slice Ab nb cb, .slice Cb mb db, .int .i64 rb]] w fun e w' => e = .returned (.tuple #[.bool z, .int .i64 sg]) ∧ Plus w w' := by
  go_enter Tryz.func27, Tryz.ntmps27
  go_upto_region 1 with fail
  go_cut [] (fun wx => Plus ((w.alloc (.cells #[.int .i64 5, .int .i64 0, .int .i64 0, .bool false, .slice A2 0 c2, .slice C2 m2 d2, .int .i64 0] 29)).alloc (.cells #[.int .i64 2, .int .i64 0, .int .i64 0, .bool false, .slice A3 0 c3, .slice C3 0 d3, .int .i64 r3] 29)) wx)
  case first =>
    go_region_with (first | (go_at_call_of 43 (Value.agg #[.int .i64 ka, .int .i64 pa, .int .i64 qa, .bool ga, .slice Aa na ca, .slice Ca ma da, .int .i64 ra]); (with_reducible refine (Vld.call hva.out (by repeat' (first | exact Plus.refl _ | refine Plus.alloc ?_ _ | refine Plus.plus ?_ _ | refine Plus.drew ?_ | refine Plus.drewN ?_ _))).mono ?_); rintro e w1 ⟨rfl, ⟨y1, rfl⟩⟩) | (go_at_call_of 43 (Value.agg #[.int .i64 kb, .int .i64 pb, .int .i64 qb, .bool gb, .slice Ab nb cb, .slice Cb mb db, .int .i64 rb]); (with_reducible refine (Vld.call hvb.out (by repeat' (first | exact Plus.refl _ | refine Plus.alloc ?_ _ | refine Plus.plus ?_ _ | refine Plus.drew ?_ | refine Plus.drewN ?_ _))).mono ?_); rintro e w1 ⟨rfl, ⟨y2, rfl⟩⟩))
    all_goals
      go_wp2_with fail
      go_meet
      exact (by repeat' (first | exact Plus.refl _ | refine Plus.alloc ?_ _ | refine Plus.plus ?_ _ | refine Plus.drew ?_ | refine Plus.drewN ?_ _))
  case rest =>
    obtain ⟨x1, rfl⟩ := hcut
    go_upto_region 6 with (first | (go_at_call_of 69 (Value.agg #[.int .i64 5, .int .i64 0, .int .i64 0, .bool false, .slice A2 0 c2, .slice C2 m2 d2, .int .i64 0]); (with_reducible refine (noth_v b2 _).mono ?_); rintro e w2 ⟨rfl, ⟨x3, rfl⟩⟩) | (go_at_call_of 69 (Value.agg #[.int .i64 2, .int .i64 0, .int .i64 0, .bool false, .slice A3 0 c3, .slice C3 0 d3, .int .i64 r3]); (with_reducible refine (noth_v b3 _).mono ?_); rintro e w2 ⟨rfl, ⟨x3, rfl⟩⟩))
    go_cut [] (fun wx => Plus ((w.alloc (.cells #[.int .i64 5, .int .i64 0, .int .i64 0, .bool false, .slice A2 0 c2, .slice C2 m2 d2, .int .i64 0] 29)).alloc (.cells #[.int .i64 3, .int .i64 0, .int .i64 r3, .bool false, .slice none 0 0, .slice none 0 0, .int .i64 0] 29)) wx)
    case first =>
      go_region_with (first | (go_at_call_of 70 (Value.agg #[.int .i64 5, .int .i64 0, .int .i64 0, .bool false, .slice A2 0 c2, .slice C2 m2 d2, .int .i64 0]); (with_reducible refine (wob_o _ (by decide)).mono ?_); rintro e w1 ⟨rfl, ⟨y1, rfl⟩⟩) | (go_at_call_of 70 (Value.agg #[.int .i64 2, .int .i64 0, .int .i64 0, .bool false, .slice A3 0 c3, .slice C3 0 d3, .int .i64 r3]); (with_reducible refine (wob_b _).mono ?_); rintro e w1 ⟨rfl, ⟨y2, rfl⟩⟩))
      all_goals
        go_wp2_with fail
        go_meet
        exact (by repeat' (first | exact Plus.refl _ | refine Plus.alloc ?_ _ | refine Plus.plus ?_ _ | refine Plus.drew ?_ | refine Plus.drewN ?_ _))
    case rest =>
      obtain ⟨x6, rfl⟩ := hcut
      go_wp2_with (go_at_call 72; (with_reducible refine (reads_v hz hm _ (hL.out.plus (by repeat' (first | exact Plus.refl _ | refine Plus.alloc ?_ _ | refine Plus.plus ?_ _ | refine Plus.drew ?_ | refine Plus.drewN ?_ _))) (hs.out.plus (by repeat' (first | exact Plus.refl _ | refine Plus.alloc ?_ _ | refine Plus.plus ?_ _ | refine Plus.drew ?_ | refine Plus.drewN ?_ _)))).mono ?_); rintro e w2 ⟨rfl, ⟨x3, rfl⟩⟩)
      go_returns
      exact ⟨rfl, (by repeat' (first | exact Plus.refl _ | refine Plus.alloc ?_ _ | refine Plus.plus ?_ _ | refine Plus.drew ?_ | refine Plus.drewN ?_ _))⟩
end Go.Proofs.YtakahpbondaidaaGreatDoor
namespace Go.Proofs.YtakahpbondaidaaGreatDoor
open Go.RowKit

theorem nv_text {D : Option Addr} {us : List Nat} {m k : Nat} {w : World} (h : Ar .u16 65536 w D us m k) (hl : us.length ≤ 4096) : NV w (Value.agg #[.int .i64 5, .int .i64 0, .int .i64 0, .bool false, .slice none 0 0, .slice D m k, .int .i64 0]) (.text us) := ⟨none, D, 0, m, k, rfl, by omega, hl, h⟩
theorem nv_big {D : Option Addr} {z k : Nat} {w : World} (h : Ar .u32 4294967296 w D [z] 1 k) (h0 : z ≠ 0) : NV w (Value.agg #[.int .i64 4, .int .i64 0, .int .i64 0, .bool false, .slice D 1 k, .slice none 0 0, .int .i64 0]) (.big z) :=
  ⟨false, D, none, [z], 1, k, 0, rfl, by omega, by simp [Bg.mayL, Bg.lim, h0], by simp [Bg.bigI, Bg.mayL, Bg.lim, h0, Bg.sgn, Bg.val], arg_ar h (by omega)⟩
theorem nv_tru {w : World} : NV w (Value.agg #[.int .i64 2, .int .i64 0, .int .i64 0, .bool false, .slice none 0 0, .slice none 0 0, .int .i64 1]) (.bool true) := ⟨none, none, 0, 0, rfl, by omega, by omega⟩
theorem nv_null {w : World} : NV w (Value.agg #[.int .i64 1, .int .i64 0, .int .i64 0, .bool false, .slice none 0 0, .slice none 0 0, .int .i64 0]) .null := ⟨none, none, 0, 0, rfl, by omega, by omega⟩
theorem number_txt {D : Option Addr} {us : List Nat} {m k : Nat} {a b s : Int} (hu : Hid (numJ (.text us) = ⟨a, b, s⟩)) (hl : us.length ≤ 4096) (w : World) (hL : Lai w) (h : Ar .u16 65536 w D us m k) :
    Calls Tryz.prog 10 #[Value.agg #[.int .i64 5, .int .i64 0, .int .i64 0, .bool false, .slice none 0 0, .slice D m k, .int .i64 0]] w fun e w' => e = .returned (.tuple #[.agg #[.int .i64 a, .int .i64 b], .int .i64 s]) ∧ Plus w w' := cnumber_v hu w hL (nv_text h hl) (nv_text h hl).vld
theorem number_bg {D : Option Addr} {z k : Nat} {a b s : Int} (hu : Hid (numJ (.big z) = ⟨a, b, s⟩)) (h0 : z ≠ 0) (w : World) (hL : Lai w) (h : Ar .u32 4294967296 w D [z] 1 k) :
    Calls Tryz.prog 10 #[Value.agg #[.int .i64 4, .int .i64 0, .int .i64 0, .bool false, .slice D 1 k, .slice none 0 0, .int .i64 0]] w fun e w' => e = .returned (.tuple #[.agg #[.int .i64 a, .int .i64 b], .int .i64 s]) ∧ Plus w w' := cnumber_v hu w hL (nv_big h h0) (nv_big h h0).vld
theorem loose_tb {D : Option Addr} {us : List Nat} {m k : Nat} {z : Bool} {s : Int} (hu : Hid (readsU 0 1 us = ⟨z, s⟩)) (hl : us.length ≤ 4096) (w : World) (hL : Lai w) (h : Ar .u16 65536 w D us m k) :
    Calls Tryz.prog 27 #[Value.agg #[.int .i64 5, .int .i64 0, .int .i64 0, .bool false, .slice none 0 0, .slice D m k, .int .i64 0], Value.agg #[.int .i64 2, .int .i64 0, .int .i64 0, .bool false, .slice none 0 0, .slice none 0 0, .int .i64 1]] w fun e w' => e = .returned (.tuple #[.bool z, .int .i64 s]) ∧ Plus w w' := loose_52 w (Lib.hid (nv_text h hl).vld) (Lib.hid nv_tru.vld) (Lib.hid rfl) (Lib.hid rfl) hu (by rw [h.len]; exact hl) (Lib.hid hL) (Lib.hid h)
theorem loose_bn {D : Option Addr} {y k : Nat} {p q : Int} {z : Bool} (hu : Hid (worthB p q y = z)) (h0 : y ≠ 0) (hv : IsV p q) (w : World) (h : Ar .u32 4294967296 w D [y] 1 k) :
    Calls Tryz.prog 27 #[Value.agg #[.int .i64 4, .int .i64 0, .int .i64 0, .bool false, .slice D 1 k, .slice none 0 0, .int .i64 0], Value.agg #[.int .i64 3, .int .i64 p, .int .i64 q, .bool false, .slice none 0 0, .slice none 0 0, .int .i64 0]] w fun e w' => e = .returned (.tuple #[.bool z, .int .i64 0]) ∧ Plus w w' := loose_43 (xs2 := [y]) w (Lib.hid (nv_big h h0).vld) (Lib.hid (nv_num w hv).vld) (Lib.hid rfl) (Lib.hid rfl) (Lib.hid (by simp [Bg.bigI, Bg.mayL, Bg.lim, h0, Bg.sgn, Bg.val])) hu (isV_bd hv).1 (isV_bd hv).2 (Lib.hid (arg_ar h (by omega)))
theorem loose_un {p q : Int} (hv : IsV p q) (w : World) :
    Calls Tryz.prog 27 #[Value.agg #[.int .i64 1, .int .i64 0, .int .i64 0, .bool false, .slice none 0 0, .slice none 0 0, .int .i64 0], Value.agg #[.int .i64 3, .int .i64 p, .int .i64 q, .bool false, .slice none 0 0, .slice none 0 0, .int .i64 0]] w fun e w' => e = .returned (.tuple #[.bool false, .int .i64 0]) ∧ Plus w w' := loose_n1 w (Lib.hid nv_null.vld) (Lib.hid (nv_num w hv).vld) rfl (Lib.hid rfl) (Lib.hid rfl)
end Go.Proofs.YtakahpbondaidaaGreatDoor

namespace Go.Proofs.YtakahpbondaidaaGreatDoor
open Go.RowKit

set_option maxRecDepth 100000 in
set_option maxHeartbeats 4000000 in
theorem few_y {k p q : Int} {g : Bool} {A C : Option Addr} {n c m d : Nat} {r : Int} (w : World) (h1 : m ≤ 20000) (h2 : decide ((n : Int) ≤ 40) = true) : Calls Tryz.prog 7 #[Value.agg #[.int .i64 k, .int .i64 p, .int .i64 q, .bool g, .slice A n c, .slice C m d, .int .i64 r]] w fun e w' => e = .returned (.bool true) ∧ Plus w w' := by
  go_enter Tryz.func7, Tryz.ntmps7
  go_wp2_with fail
  go_returns
  exact ⟨rfl, (by repeat' (first | exact Plus.refl _ | refine Plus.alloc ?_ _ | refine Plus.plus ?_ _ | refine Plus.drew ?_ | refine Plus.drewN ?_ _))⟩
set_option maxRecDepth 100000 in
set_option maxHeartbeats 4000000 in
theorem few_n1 {k p q : Int} {g : Bool} {A C : Option Addr} {n c m d : Nat} {r : Int} (w : World) (h1 : ¬ m ≤ 20000) : Calls Tryz.prog 7 #[Value.agg #[.int .i64 k, .int .i64 p, .int .i64 q, .bool g, .slice A n c, .slice C m d, .int .i64 r]] w fun e w' => e = .returned (.bool false) ∧ Plus w w' := by
  go_enter Tryz.func7, Tryz.ntmps7
  go_wp2_with fail
  go_returns
  exact ⟨rfl, (by repeat' (first | exact Plus.refl _ | refine Plus.alloc ?_ _ | refine Plus.plus ?_ _ | refine Plus.drew ?_ | refine Plus.drewN ?_ _))⟩
set_option maxRecDepth 100000 in
set_option maxHeartbeats 4000000 in
theorem few_n2 {k p q : Int} {g : Bool} {A C : Option Addr} {n c m d : Nat} {r : Int} (w : World) (h1 : m ≤ 20000) (h2 : decide ((n : Int) ≤ 40) = false) : Calls Tryz.prog 7 #[Value.agg #[.int .i64 k, .int .i64 p, .int .i64 q, .bool g, .slice A n c, .slice C m d, .int .i64 r]] w fun e w' => e = .returned (.bool false) ∧ Plus w w' := by
  go_enter Tryz.func7, Tryz.ntmps7
  go_wp2_with fail
  go_returns
  exact ⟨rfl, (by repeat' (first | exact Plus.refl _ | refine Plus.alloc ?_ _ | refine Plus.plus ?_ _ | refine Plus.drew ?_ | refine Plus.drewN ?_ _))⟩
def fewB (m n : Nat) : Bool := decide (m ≤ 20000 ∧ n ≤ 40)
theorem few_v {k p q : Int} {g : Bool} {A C : Option Addr} {n c m d : Nat} {r : Int} {z : Bool} (hz : Hid (fewB m n = z)) (w : World) : Calls Tryz.prog 7 #[Value.agg #[.int .i64 k, .int .i64 p, .int .i64 q, .bool g, .slice A n c, .slice C m d, .int .i64 r]] w fun e w' => e = .returned (.bool z) ∧ Plus w w' := by
  obtain rfl := hz.out
  by_cases h1 : m ≤ 20000
  · by_cases h2 : n ≤ 40
    · rw [show fewB m n = true by simp [fewB, h1, h2]]
      exact few_y w h1 (by simp; omega)
    · rw [show fewB m n = false by simp [fewB, h2]]
      exact few_n2 w h1 (by simp; omega)
  · rw [show fewB m n = false by simp [fewB, h1]]
    exact few_n1 w h1
theorem few_of {m n : Nat} (h : fewB m n = true) : m ≤ 20000 ∧ n ≤ 40 := by unfold fewB at h; exact of_decide_eq_true h
def okJ : JV → Prop
  | .num p q => IsV p q
  | .big z => z.natAbs < Bg.B ^ 8
  | .text us => us.length ≤ 4096 ∧ ∀ x ∈ us, x < 65536
  | _ => True
theorem NV.ok {w : World} {v : Value} {x : JV} (h : NV w v x) : okJ x := by
  cases x with
  | num p q => obtain ⟨A, C, c, d, _, _, _, h3⟩ := h; exact h3
  | big z => obtain ⟨g, A, C, xs, n, c, d, _, _, _, rfl, h4⟩ := h; exact Bg.bigI_abs h4.lim.1
  | text us => obtain ⟨A, C, c, m, d, _, _, h2, h3⟩ := h; exact ⟨h2, h3.bd⟩
  | _ => trivial
theorem equalS_cases {p q r s : Int} (h1 : IsV p q) (h2 : IsV r s) (h : equalS p q r s = true) : (p = r ∧ q = s) ∨ (q = 0 ∧ s = 0 ∧ (p = 0 ∨ p = 1) ∧ (r = 0 ∨ r = 1)) := by
  unfold equalS place at h
  rcases h1 with ⟨rfl, a, b⟩ | ⟨rfl, rfl⟩ | ⟨rfl, rfl⟩ | ⟨rfl, rfl⟩ | ⟨rfl, rfl⟩ <;> rcases h2 with ⟨rfl, c, d⟩ | ⟨rfl, rfl⟩ | ⟨rfl, rfl⟩ | ⟨rfl, rfl⟩ | ⟨rfl, rfl⟩ <;> simp at h ⊢ <;> omega
theorem equalS_refl {p q : Int} (h : (p == 2) = false) : equalS p q p q = true := by unfold equalS; simp [h]
theorem strict_eqv {x y : JV} (h1 : okJ x) (h2 : okJ y) (h : strictJ x y = true) : txtJ x = txtJ y ∧ idxJ x = idxJ y ∧ boolJ x = boolJ y := by
  cases x <;> cases y <;> simp only [strictJ, Bool.false_eq_true] at h
  case undef.undef => exact ⟨rfl, rfl, rfl⟩
  case null.null => exact ⟨rfl, rfl, rfl⟩
  case bool.bool a b => obtain rfl : a = b := by simpa using h
                        exact ⟨rfl, rfl, rfl⟩
  case num.num p q r s =>
    rcases equalS_cases h1 h2 h with ⟨rfl, rfl⟩ | ⟨rfl, rfl, hp, hr⟩
    · exact ⟨rfl, rfl, rfl⟩
    · rcases hp with rfl | rfl <;> rcases hr with rfl | rfl <;> exact ⟨rfl, rfl, rfl⟩
  case big.big a b => obtain rfl : a = b := by simpa using h
                      exact ⟨rfl, rfl, rfl⟩
  case text.text a b => obtain rfl : a = b := by simpa using h
                        exact ⟨rfl, rfl, rfl⟩
  case obj.obj a b => obtain rfl : a = b := by simpa using h
                      exact ⟨rfl, rfl, rfl⟩
theorem equalS_place {p q r s : Int} : equalS p q r s = true ↔ (p ≠ 2 ∧ r ≠ 2 ∧ place p q = place r s) := by unfold equalS; simp
theorem strict_trans {x y z : JV} (h1 : strictJ x y = true) (h2 : strictJ y z = true) : strictJ x z = true := by
  cases x <;> cases y <;> simp only [strictJ, Bool.false_eq_true] at h1 <;> cases z <;> simp only [strictJ, Bool.false_eq_true] at h2 ⊢
  case bool.bool.bool a b c => simp at h1 h2 ⊢; exact h1.trans h2
  case num.num.num => rw [equalS_place] at h1 h2 ⊢; exact ⟨h1.1, h2.2.1, h1.2.2.trans h2.2.2⟩
  case big.big.big => simp at h1 h2 ⊢; exact h1.trans h2
  case text.text.text => simp at h1 h2 ⊢; exact h1.trans h2
  case obj.obj.obj => simp at h1 h2 ⊢; exact h1.trans h2
theorem strict_symm (x y : JV) : strictJ x y = strictJ y x := by
  cases x <;> cases y <;> simp only [strictJ]
  case bool.bool a b => cases a <;> cases b <;> rfl
  case num.num p q r s => rw [Bool.eq_iff_iff, equalS_place, equalS_place]; constructor <;> (rintro ⟨a, b, c⟩; exact ⟨b, a, c.symm⟩)
  case big.big a b => simp [eq_comm]
  case text.text a b => simp [eq_comm]
  case obj.obj a b => simp [eq_comm]
end Go.Proofs.YtakahpbondaidaaGreatDoor
namespace Go.Proofs.YtakahpbondaidaaGreatDoor
open Go.RowKit

def blankB (x : Nat) : Bool := x == 32 || x == 9 || x == 10 || x == 13
theorem dw_all {p : UInt8 → Bool} : ∀ a b : List UInt8, (∀ x ∈ a, p x = true) → (a ++ b).dropWhile p = b.dropWhile p
  | [], _, _ => rfl
  | x :: a, b, h => by
    rw [List.cons_append, List.dropWhile_cons, if_pos (h x (by simp))]
    exact dw_all a b fun y hy => h y (List.mem_cons_of_mem _ hy)
theorem dw_some {p : UInt8 → Bool} : ∀ a b : List UInt8, (∃ x ∈ a, p x = false) → (a ++ b).dropWhile p = a.dropWhile p ++ b
  | [], _, h => by obtain ⟨x, hx, _⟩ := h; simp at hx
  | x :: a, b, h => by
    rw [List.cons_append, List.dropWhile_cons, List.dropWhile_cons]
    by_cases q : p x = true
    · rw [if_pos q, if_pos q]
      refine dw_some a b ?_
      obtain ⟨y, hy, hy2⟩ := h
      rcases List.mem_cons.1 hy with e | e
      · rw [e, q] at hy2; cases hy2
      · exact ⟨y, e, hy2⟩
    · rw [if_neg q, if_neg q]; rfl
theorem trim_around (c b1 l b2 : List UInt8) (h1 : ∀ x ∈ b1, c.contains x = true) (h2 : ∀ x ∈ b2, c.contains x = true) : Lib.trimS (b1 ++ l ++ b2) c = Lib.trimS l c := by
  unfold Lib.trimS
  have e1 : Lib.trimRightS (b1 ++ l ++ b2) c = Lib.trimRightS (b1 ++ l) c := by
    unfold Lib.trimRightS
    rw [List.reverse_append, dw_all _ _ (fun x hx => h2 x (List.mem_reverse.1 hx))]
  rw [e1]
  by_cases hl : ∃ x ∈ l, c.contains x = false
  · have e2 : Lib.trimRightS (b1 ++ l) c = b1 ++ Lib.trimRightS l c := by
      unfold Lib.trimRightS
      rw [List.reverse_append, dw_some _ _ (by obtain ⟨x, hx, hx2⟩ := hl; exact ⟨x, List.mem_reverse.2 hx, hx2⟩), List.reverse_append, List.reverse_reverse]
    rw [e2]
    unfold Lib.trimLeftS
    exact dw_all _ _ h1
  · have hl2 : ∀ x ∈ l, c.contains x = true := fun x hx => by
      cases q : c.contains x
      · exact absurd ⟨x, hx, q⟩ hl
      · rfl
    have e3 : Lib.trimRightS l c = [] := by
      unfold Lib.trimRightS
      have := dw_all (p := (c.contains ·)) l.reverse [] (fun x hx => hl2 x (List.mem_reverse.1 hx))
      rw [List.append_nil] at this
      rw [this]
      rfl
    have e4 : Lib.trimRightS (b1 ++ l) c = [] := by
      unfold Lib.trimRightS
      have := dw_all (p := (c.contains ·)) (b1 ++ l).reverse [] (fun x hx => by
        rcases List.mem_append.1 (List.mem_reverse.1 hx) with h | h
        · exact h1 x h
        · exact hl2 x h)
      rw [List.append_nil] at this
      rw [this]
      rfl
    rw [e3, e4]
theorem blank_in {b : List Nat} (h : b.all blankB = true) : ∀ x ∈ b.map Nat.toUInt8, blankS.contains x = true := fun x hx => by
  obtain ⟨y, hy, rfl⟩ := List.mem_map.1 hx
  have := List.all_eq_true.1 h y hy
  unfold blankB at this
  simp at this
  rcases this with ((rfl | rfl) | rfl) | rfl <;> decide
theorem blank_low {b : List Nat} (h : b.all blankB = true) : low b = true := by
  unfold low
  rw [List.all_eq_true] at h ⊢
  intro x hx
  have := h x hx
  unfold blankB at this
  simp at this
  simp
  omega
theorem num_around {b1 xs b2 : List Nat} (h1 : b1.all blankB = true) (h2 : b2.all blankB = true) : numU (b1 ++ xs ++ b2) = numU xs := by
  have e : low (b1 ++ xs ++ b2) = low xs := by
    have l1 := blank_low h1
    have l2 := blank_low h2
    unfold low at l1 l2 ⊢
    rw [List.all_append, List.all_append, l1, l2]
    simp
  unfold numU
  rw [e, List.map_append, List.map_append, trim_around _ _ _ _ (blank_in h1) (blank_in h2)]
theorem dw_none {p : UInt8 → Bool} : ∀ l : List UInt8, (∀ x ∈ l, p x = false) → l.dropWhile p = l
  | [], _ => rfl
  | x :: l, h => by rw [List.dropWhile_cons, if_neg (by rw [h x (by simp)]; simp)]
theorem trim_none (l c : List UInt8) (h : ∀ x ∈ l, c.contains x = false) : Lib.trimS l c = l := by
  unfold Lib.trimS Lib.trimRightS Lib.trimLeftS
  rw [dw_none l.reverse (fun x hx => h x (List.mem_reverse.1 hx)), List.reverse_reverse, dw_none l h]
theorem dw_to_nil {p : UInt8 → Bool} : ∀ l : List UInt8, (∀ x ∈ l, p x = true) → l.dropWhile p = []
  | [], _ => rfl
  | x :: l, h => by rw [List.dropWhile_cons, if_pos (h x (by simp))]; exact dw_to_nil l fun y hy => h y (List.mem_cons_of_mem _ hy)
theorem trim_all (l c : List UInt8) (h : ∀ x ∈ l, c.contains x = true) : Lib.trimS l c = [] := by
  unfold Lib.trimS Lib.trimRightS
  rw [dw_to_nil l.reverse (fun x hx => h x (List.mem_reverse.1 hx))]
  rfl
theorem dig_in {x : UInt8} (h : 48 ≤ x.toNat ∧ x.toNat ≤ 57) : digS.contains x = true ∧ blankS.contains x = false := by
  obtain ⟨h1, h2⟩ := h
  have hn : x.toNat = 48 ∨ x.toNat = 49 ∨ x.toNat = 50 ∨ x.toNat = 51 ∨ x.toNat = 52 ∨ x.toNat = 53 ∨ x.toNat = 54 ∨ x.toNat = 55 ∨ x.toNat = 56 ∨ x.toNat = 57 := by omega
  rcases hn with q | q | q | q | q | q | q | q | q | q
  · obtain rfl : x = 48 := UInt8.toNat_inj.1 q
    decide
  · obtain rfl : x = 49 := UInt8.toNat_inj.1 q
    decide
  · obtain rfl : x = 50 := UInt8.toNat_inj.1 q
    decide
  · obtain rfl : x = 51 := UInt8.toNat_inj.1 q
    decide
  · obtain rfl : x = 52 := UInt8.toNat_inj.1 q
    decide
  · obtain rfl : x = 53 := UInt8.toNat_inj.1 q
    decide
  · obtain rfl : x = 54 := UInt8.toNat_inj.1 q
    decide
  · obtain rfl : x = 55 := UInt8.toNat_inj.1 q
    decide
  · obtain rfl : x = 56 := UInt8.toNat_inj.1 q
    decide
  · obtain rfl : x = 57 := UInt8.toNat_inj.1 q
    decide
/-- One of digits, with noughts ahead. -/
theorem uns_dig {l : List UInt8} (h : ∀ x ∈ l, 48 ≤ x.toNat ∧ x.toNat ≤ 57) : unsT l = l ∧ Lib.hasPrefix l [45] = false := by
  have hp : ∀ b : UInt8, b.toNat < 48 → Lib.hasPrefix l [b] = false := fun b hb => by
    unfold Lib.hasPrefix
    cases l with
    | nil => rfl
    | cons c r =>
      have := h c (by simp)
      simp [List.isPrefixOf]
      intro e
      subst e
      omega
  unfold unsT Lib.trimPrefix
  rw [hp 45 (by decide), hp 43 (by decide)]
  simp
theorem num_dig {l : List UInt8} (h0 : l ≠ []) (h : ∀ x ∈ l, 48 ≤ x.toNat ∧ x.toNat ≤ 57) : numT (Lib.trimS l blankS) = ⟨(parS (wzT l)).k, (parS (wzT l)).n, (parS (wzT l)).ok⟩ := by
  rw [trim_none l blankS fun x hx => (dig_in (h x hx)).2]
  obtain ⟨h1, h2⟩ := uns_dig h
  unfold numT
  rw [if_neg h0, h1, h2, if_neg, if_pos ⟨h0, trim_all l digS fun x hx => (dig_in (h x hx)).1⟩]
  · rfl
  · rintro rfl
    exact absurd (h 73 (by decide)).2 (by decide)
theorem wz_dd (m : Nat) : wzT (Lib.decDigits m) = Lib.decDigits m := by
  rcases Nat.eq_zero_or_pos m with rfl | h
  · rw [Lib.decDigits_one (by omega)]; decide
  · obtain ⟨c, r, e, q⟩ := dd_head m h
    unfold wzT Lib.trimLeftS
    have hc : ([48] : List UInt8).contains c = false := by
      simp
      intro e
      exact q (by rw [e]; rfl)
    have hd : (c :: r).dropWhile (([48] : List UInt8).contains ·) = c :: r := by
      rw [List.dropWhile_cons]
      simp only [hc]
      rfl
    rw [e, hd]
    rfl
/-- Digits without the noughts ahead are the digits of their number. -/
theorem dd_push (m d : Nat) (hm : 0 < m) (hd : d < 10) : Lib.decDigits (10 * m + d) = Lib.decDigits m ++ [UInt8.ofNat (48 + d)] := by
  rw [Lib.decDigits, dif_neg (by omega), show (10 * m + d) / 10 = m by omega, show (10 * m + d) % 10 = d by omega]
def valU (l : List UInt8) : Nat := l.foldl (fun n x => 10 * n + (x.toNat - 48)) 0
theorem val_dd : ∀ (m : Nat), valU (Lib.decDigits m) = m := fun m => by
  induction m using Nat.strongRecOn with
  | _ m ih =>
    by_cases h : m < 10
    · rw [Lib.decDigits_one h]
      show 10 * 0 + ((UInt8.ofNat (48 + m)).toNat - 48) = m
      rw [UInt8.toNat_ofNat']
      omega
    · rw [Lib.decDigits, dif_neg h]
      unfold valU
      rw [List.foldl_append]
      show 10 * valU (Lib.decDigits (m / 10)) + ((UInt8.ofNat (48 + m % 10)).toNat - 48) = m
      rw [ih (m / 10) (by omega), UInt8.toNat_ofNat']
      omega
theorem itoa_minus {v : Int} (h : v < 0) : ∃ r, Lib.itoa v = 45 :: r := by
  unfold Lib.itoa
  rw [if_pos h]
  exact ⟨_, rfl⟩
/-- A number of digits that is too great has no number. -/
theorem par_over {m : Nat} (hm : 9007199254740991 < m) : parS (Lib.decDigits m) = ⟨2, 0, false⟩ := by
  unfold parS
  rw [if_neg (not_name (dd_dig m) 78 _ (by decide)), if_neg (not_name (dd_dig m) 73 _ (by decide)), if_neg (not_name (dd_dig m) 45 _ (by decide))]
  split
  · rename_i v hv
    by_cases hi : Lib.itoa v = Lib.decDigits m
    · rw [if_pos hi]
      have hv2 : v = (m : Int) := by
        by_cases hn : v < 0
        · obtain ⟨r, hr⟩ := itoa_minus hn
          rw [hr] at hi
          have := dd_dig m 45 (by rw [← hi]; simp)
          exact absurd this.1 (by decide)
        · obtain ⟨u, rfl⟩ : ∃ u : Nat, v = u := ⟨v.toNat, by omega⟩
          rw [Lib.itoa_nonneg] at hi
          have e := congrArg valU hi
          rw [val_dd, val_dd] at e
          omega
      subst hv2
      unfold ofS
      rw [if_neg (by omega)]
    · rw [if_neg hi]
  · rfl

theorem u8n_back (l : List UInt8) : (u8n l).map Nat.toUInt8 = l := by
  unfold u8n
  rw [List.map_map]
  conv => rhs; rw [← List.map_id l]
  apply List.map_congr_left
  intro a _
  simp
theorem u8n_low {l : List UInt8} (h : ∀ x ∈ l, x.toNat < 128) : low (u8n l) = true := by
  unfold low u8n
  rw [List.all_map, List.all_eq_true]
  intro x hx
  simpa using h x hx
theorem numU_u8 {l : List UInt8} (h : ∀ x ∈ l, x.toNat < 128) : numU (u8n l) = numT (Lib.trimS l blankS) := by
  unfold numU
  rw [u8n_low h, if_pos rfl, u8n_back]
theorem itoa_pos {n : Int} (h : 0 ≤ n) : Lib.itoa n = Lib.decDigits n.toNat := by
  unfold Lib.itoa
  rw [if_neg (by omega)]
  try (congr 1; omega)
theorem itoa_ng {n : Int} (h : n < 0) : Lib.itoa n = 45 :: Lib.decDigits (-n).toNat := by
  unfold Lib.itoa
  rw [if_pos h]
  congr 2
  omega
theorem num_pos {m : Nat} : numU (u8n (Lib.decDigits m)) = ⟨(parS (Lib.decDigits m)).k, (parS (Lib.decDigits m)).n, (parS (Lib.decDigits m)).ok⟩ := by
  rw [numU_u8 (fun x hx => by have := dd_dig m x hx; omega), num_dig (dd_ne m) (dd_dig m), wz_dd]
theorem num_neg {m : Nat} : numU (u8n (45 :: Lib.decDigits m)) = ⟨sgnK true (parS (Lib.decDigits m)).k (parS (Lib.decDigits m)).n, sgnN true (parS (Lib.decDigits m)).k (parS (Lib.decDigits m)).n, (parS (Lib.decDigits m)).ok⟩ := by
  have hd := dd_dig m
  rw [numU_u8 (fun x hx => by
    rcases List.mem_cons.1 hx with rfl | hx
    · decide
    · have := hd x hx; omega)]
  have ht : Lib.trimS (45 :: Lib.decDigits m) blankS = 45 :: Lib.decDigits m := trim_none _ _ (fun x hx => by
    rcases List.mem_cons.1 hx with rfl | hx
    · decide
    · exact (dig_in (hd x hx)).2)
  rw [ht]
  have hp : Lib.hasPrefix (45 :: Lib.decDigits m) [45] = true := by simp [Lib.hasPrefix]
  have hu : unsT (45 :: Lib.decDigits m) = Lib.decDigits m := by
    unfold unsT
    rw [hp, if_pos rfl]
    simp [Lib.trimPrefix, Lib.hasPrefix]
  have hi : Lib.decDigits m ≠ infS := not_name hd 73 _ (by decide)
  unfold numT
  rw [if_neg (by simp), hu, hp, if_neg hi, if_pos ⟨dd_ne m, trim_all _ _ fun x hx => (dig_in (hd x hx)).1⟩, wz_dd]
theorem idxJ_text (us : List Nat) : idxJ (.text us) = idxN (if (numU us).ok then ⟨(numU us).k, (numU us).n, 0⟩ else ⟨0, 0, 3⟩) := rfl
theorem idx_hi {z : Int} (h : 9007199254740991 < z) (h2 : z ≤ 9223372036854775807) : idxJ (.text (u8n (Lib.itoa z))) = ⟨0, 3⟩ := by
  rw [idxJ_text, itoa_pos (by omega), num_pos, par_over (by omega)]
  rfl
theorem idx_lo {z : Int} (h : z < -9007199254740991) (h2 : -9223372036854775808 ≤ z) : idxJ (.text (u8n (Lib.itoa z))) = ⟨0, 3⟩ := by
  rw [idxJ_text, itoa_ng (by omega), num_neg, par_over (by omega)]
  rfl
theorem wholeR_0 {z : Int} (h1 : -9007199254740991 ≤ z) (h2 : z ≤ 9007199254740991) : wholeR 0 z = ⟨0, z⟩ := by
  unfold wholeR
  have hv : IsV 0 z := .inl ⟨rfl, h1, h2⟩
  rw [vk_of hv, vn_of hv]
  unfold wholeS
  rw [if_neg (by decide)]
theorem idxN_0 {z : Int} (h1 : -9007199254740991 ≤ z) (h2 : z ≤ 9007199254740991) : idxN ⟨0, z, 0⟩ = if 0 ≤ z then ⟨z, 0⟩ else ⟨0, 2⟩ := by
  unfold idxN indexO indexR
  simp only [wholeR_0 h1 h2, indexB, indexS, if_true]
  by_cases h : 0 ≤ z
  · simp [h]
  · simp [h]
theorem par_dd' {m : Nat} (hm : m ≤ 9007199254740991) : parS (Lib.decDigits m) = ⟨0, m, true⟩ := by
  rw [par_all (by omega), if_pos hm]
theorem idx_pos {z : Int} (h : 0 ≤ z) (h2 : z ≤ 9007199254740991) : idxJ (.text (u8n (Lib.itoa z))) = ⟨z, 0⟩ := by
  rw [idxJ_text, itoa_pos h, num_pos, par_dd' (by omega)]
  have : ((z.toNat : Nat) : Int) = z := by omega
  rw [this]
  simp only [if_true]
  rw [idxN_0 (by omega) h2, if_pos h]
theorem idx_neg {z : Int} (h : z < 0) (h2 : -9007199254740991 ≤ z) : idxJ (.text (u8n (Lib.itoa z))) = ⟨0, 2⟩ := by
  rw [idxJ_text]
  have hm : (-z).toNat ≤ 9007199254740991 := by omega
  have e : (((-z).toNat : Nat) : Int) = -z := by omega
  have hv : IsV 0 (-z) := .inl ⟨rfl, by omega, by omega⟩
  rw [itoa_ng h, num_neg, par_dd' hm, e]
  simp only [sgnK, sgnN, if_true, negR, vk_of hv, vn_of hv]
  unfold negS
  rw [if_neg (by decide), if_neg (by decide), if_neg (by decide), if_neg (by decide), if_neg (by omega)]
  simp only
  rw [show -(-z) = z by omega, idxN_0 (by omega) (by omega), if_neg (by omega)]
theorem indexR_bd (k n : Int) : 0 ≤ indexR k n ∧ indexR k n ≤ 9007199254740991 := by
  unfold indexR wholeR indexS wholeS
  have hv := isV_v k n
  generalize vk k n = p at *
  generalize vn k n = q at *
  rcases hv with ⟨rfl, h1, h2⟩ | ⟨rfl, rfl⟩ | ⟨rfl, rfl⟩ | ⟨rfl, rfl⟩ | ⟨rfl, rfl⟩
  · split <;> (try split) <;> simp_all <;> omega
  all_goals decide
theorem nofU_s (us : List Nat) : (nofU us).s = 0 ∨ (nofU us).s = 3 := by unfold nofU; split <;> simp
theorem numJ_s (x : JV) : (numJ x).s = 0 ∨ (numJ x).s = 1 ∨ (numJ x).s = 3 := by
  cases x with
  | text us => rcases nofU_s us with h | h <;> simp [numJ, h]
  | _ => simp [numJ]
theorem idxJ_bd {x : JV} {i s : Int} (h : idxJ x = ⟨i, s⟩) : 0 ≤ i ∧ i ≤ 9007199254740991 ∧ (s = 0 ∨ i = 0) ∧ 0 ≤ s ∧ s ≤ 3 := by
  unfold idxJ idxN at h
  have hb := indexR_bd (numJ x).k (numJ x).n
  have hs := numJ_s x
  split at h
  · split at h
    · injection h with h1 h2
      subst h1 h2
      omega
    · injection h with h1 h2
      subst h1 h2
      omega
  · injection h with h1 h2
    subst h1 h2
    omega
end Go.Proofs.YtakahpbondaidaaGreatDoor
namespace Go.Proofs.YtakahpbondaidaaGreatDoor
open Go.RowKit

set_option maxRecDepth 100000 in
set_option maxHeartbeats 4000000 in
theorem whole10_k (z : Int) (w : World) : Calls Tryz.prog 40 #[.int .i64 z] w fun e w' => e = .returned (Value.agg #[.int .i64 3, .int .i64 0, .int .i64 z, .bool false, .slice none 0 0, .slice none 0 0, .int .i64 0]) ∧ Plus w w' := by
  go_enter Tryz.func40, Tryz.ntmps40
  go_wp2_with fail
  go_returns
  exact ⟨rfl, (by repeat' (first | exact Plus.refl _ | refine Plus.alloc ?_ _ | refine Plus.plus ?_ _ | refine Plus.drew ?_ | refine Plus.drewN ?_ _))⟩
set_option maxRecDepth 100000 in
set_option maxHeartbeats 4000000 in
theorem str10_v {s : ByteArray} {xs : List Nat} {n : Nat} (hx : Hid (nats s = xs ∧ n = xs.length)) (w : World) (hs : s.size ≤ 1048576) : Calls Tryz.prog 37 #[.string s] w (StrP xs n w) := by
  go_enter Tryz.func37, Tryz.ntmps37
  go_wp2_with (go_at_call 61; (with_reducible refine (rascii_n hx _ hs).mono ?_); rintro e w1 ⟨D, k, rfl, hD, ⟨x1, rfl⟩⟩; have HD := Lib.hid hD; clear hD)
  go_returns
  exact ⟨D, k, rfl, HD.out.turn no16, (by repeat' (first | exact Plus.refl _ | refine Plus.alloc ?_ _ | refine Plus.plus ?_ _ | refine Plus.drew ?_ | refine Plus.drewN ?_ _))⟩
set_option maxRecDepth 100000 in
set_option maxHeartbeats 4000000 in
theorem big10_v (z : Nat) (hz : z < 4294967296) (w : World) : Calls Tryz.prog 38 #[.int .u32 (z : Int)] w (BigP z w) := by
  go_enter Tryz.func38, Tryz.ntmps38
  go_wp2_with fail
  go_returns
  refine ⟨_, _, rfl, ?_, (by repeat' (first | exact Plus.refl _ | refine Plus.alloc ?_ _ | refine Plus.plus ?_ _ | refine Plus.drew ?_ | refine Plus.drewN ?_ _))⟩
  exact ar_new rfl (by rw [World.size_alloc]) rfl rfl (by intro x hx; simp at hx; omega) (by omega)

theorem index_nm {p q i s : Int} (hu : Hid (idxJ (.num p q) = ⟨i, s⟩)) (hv : IsV p q) (w : World) (hL : Lai w) :
    Calls Tryz.prog 21 #[Value.agg #[.int .i64 3, .int .i64 p, .int .i64 q, .bool false, .slice none 0 0, .slice none 0 0, .int .i64 0]] w fun e w' => e = .returned (.tuple #[.int .i64 i, .int .i64 s]) ∧ Plus w w' := cindex_v hu w hL (nv_num w hv) (nv_num w hv).vld
theorem big10_n {z : Nat} {y : Int} (hy : y = z) (hz : z < 4294967296) (w : World) : Calls Tryz.prog 38 #[.int .u32 y] w (BigP z w) := by
  subst hy
  exact big10_v z hz w
set_option maxRecDepth 100000 in
set_option maxHeartbeats 4000000 in
theorem first10_h (w : World) (hL : Hid (Lai w)) (s1 : Hid (nats ⟨#[49, 50]⟩ = [49, 50] ∧ 2 = ([49, 50] : List Nat).length)) (s2 : Hid (nats ⟨#[49, 46, 53]⟩ = [49, 46, 53] ∧ 3 = ([49, 46, 53] : List Nat).length)) (s3 : Hid (nats ⟨#[49]⟩ = [49] ∧ 1 = ([49] : List Nat).length)) (n1 : Hid (numJ (.text [49, 50]) = ⟨0, 12, 0⟩)) (n2 : Hid (numJ (.text [49, 46, 53]) = ⟨0, 0, 3⟩)) (n3 : Hid (numJ (.big (5 : Nat)) = ⟨0, 0, 1⟩)) (l1 : Hid (readsU 0 1 [49] = ⟨true, 0⟩)) (l2 : Hid (worthB 0 2 (2 : Nat) = true)) (i1 : Hid (idxJ (.num 0 (-1)) = ⟨0, 2⟩)) (v2 : IsV 0 2) (v0 : IsV 0 0) (v1 : IsV 0 (-1)) : Calls Tryz.prog 6 #[] w fun e w' => e = .returned (.bool true) ∧ Plus w w' := by
  go_enter Tryz.func6, Tryz.ntmps6
  go_wp2_with (first | (go_at_call_of 37 (Value.string ⟨#[49, 50]⟩); (with_reducible refine (str10_v s1 _ (by decide)).mono ?_); rintro e w1 ⟨D1, k1, rfl, hD1, ⟨x1, rfl⟩⟩; have HD1 := Lib.hid hD1; clear hD1) | (go_at_call_of 37 (Value.string ⟨#[49, 46, 53]⟩); (with_reducible refine (str10_v s2 _ (by decide)).mono ?_); rintro e w1 ⟨D2, k2, rfl, hD2, ⟨x2, rfl⟩⟩; have HD2 := Lib.hid hD2; clear hD2) | (go_at_call_of 37 (Value.string ⟨#[49]⟩); (with_reducible refine (str10_v s3 _ (by decide)).mono ?_); rintro e w1 ⟨D3, k3, rfl, hD3, ⟨x3, rfl⟩⟩; have HD3 := Lib.hid hD3; clear hD3) | (go_at_call_of 38 (Value.int IntKind.u32 5); (with_reducible refine (big10_n (z := 5) (by decide) (by decide) _).mono ?_); rintro e w1 ⟨E1, lk1, rfl, hE1, ⟨y1, rfl⟩⟩; have HE1 := Lib.hid hE1; clear hE1) | (go_at_call_of 38 (Value.int IntKind.u32 2); (with_reducible refine (big10_n (z := 2) (by decide) (by decide) _).mono ?_); rintro e w1 ⟨E2, lk2, rfl, hE2, ⟨y2, rfl⟩⟩; have HE2 := Lib.hid hE2; clear hE2) | (go_at_call 10; (with_reducible refine (number_txt n1 (by decide) _ (hL.out.plus (by repeat' (first | exact Plus.refl _ | refine Plus.alloc ?_ _ | refine Plus.plus ?_ _ | refine Plus.drew ?_ | refine Plus.drewN ?_ _))) (HD1.out.plus (by repeat' (first | exact Plus.refl _ | refine Plus.alloc ?_ _ | refine Plus.plus ?_ _ | refine Plus.drew ?_ | refine Plus.drewN ?_ _)))).mono ?_); rintro e w1 ⟨rfl, ⟨z1, rfl⟩⟩) | (go_at_call 10; (with_reducible refine (number_txt n2 (by decide) _ (hL.out.plus (by repeat' (first | exact Plus.refl _ | refine Plus.alloc ?_ _ | refine Plus.plus ?_ _ | refine Plus.drew ?_ | refine Plus.drewN ?_ _))) (HD2.out.plus (by repeat' (first | exact Plus.refl _ | refine Plus.alloc ?_ _ | refine Plus.plus ?_ _ | refine Plus.drew ?_ | refine Plus.drewN ?_ _)))).mono ?_); rintro e w1 ⟨rfl, ⟨z2, rfl⟩⟩) | (go_at_call 10; (with_reducible refine (number_bg n3 (by decide) _ (hL.out.plus (by repeat' (first | exact Plus.refl _ | refine Plus.alloc ?_ _ | refine Plus.plus ?_ _ | refine Plus.drew ?_ | refine Plus.drewN ?_ _))) (HE1.out.plus (by repeat' (first | exact Plus.refl _ | refine Plus.alloc ?_ _ | refine Plus.plus ?_ _ | refine Plus.drew ?_ | refine Plus.drewN ?_ _)))).mono ?_); rintro e w1 ⟨rfl, ⟨z3, rfl⟩⟩) | (go_at_call 39; (with_reducible refine (truth_t _).mono ?_); rintro e w1 ⟨rfl, ⟨z4, rfl⟩⟩) | (go_at_call 27; (with_reducible refine (loose_tb l1 (by decide) _ (hL.out.plus (by repeat' (first | exact Plus.refl _ | refine Plus.alloc ?_ _ | refine Plus.plus ?_ _ | refine Plus.drew ?_ | refine Plus.drewN ?_ _))) (HD3.out.plus (by repeat' (first | exact Plus.refl _ | refine Plus.alloc ?_ _ | refine Plus.plus ?_ _ | refine Plus.drew ?_ | refine Plus.drewN ?_ _)))).mono ?_); rintro e w1 ⟨rfl, ⟨z5, rfl⟩⟩) | (go_at_call 27; (with_reducible refine (loose_bn l2 (by decide) v2 _ (HE2.out.plus (by repeat' (first | exact Plus.refl _ | refine Plus.alloc ?_ _ | refine Plus.plus ?_ _ | refine Plus.drew ?_ | refine Plus.drewN ?_ _)))).mono ?_); rintro e w1 ⟨rfl, ⟨z6, rfl⟩⟩) | (go_at_call 27; (with_reducible refine (loose_un v0 _).mono ?_); rintro e w1 ⟨rfl, ⟨z7, rfl⟩⟩) | (go_at_call 40; (with_reducible refine (whole10_k _ _).mono ?_); rintro e w1 ⟨rfl, ⟨z8, rfl⟩⟩) | (go_at_call 21; (with_reducible refine (index_nm i1 v1 _ (hL.out.plus (by repeat' (first | exact Plus.refl _ | refine Plus.alloc ?_ _ | refine Plus.plus ?_ _ | refine Plus.drew ?_ | refine Plus.drewN ?_ _)))).mono ?_); rintro e w1 ⟨rfl, ⟨z9, rfl⟩⟩))


  go_returns
  exact ⟨rfl, (by repeat' (first | exact Plus.refl _ | refine Plus.alloc ?_ _ | refine Plus.plus ?_ _ | refine Plus.drew ?_ | refine Plus.drewN ?_ _))⟩
theorem first10_c (w : World) (hL : Lai w) : Calls Tryz.prog 6 #[] w fun e w' => e = .returned (.bool true) ∧ Plus w w' :=
  first10_h w (Lib.hid hL) (Lib.hid (by decide)) (Lib.hid (by decide)) (Lib.hid (by decide)) (Lib.hid (by kernel_rfl)) (Lib.hid (by kernel_rfl)) (Lib.hid rfl) (Lib.hid (by kernel_rfl)) (Lib.hid (by kernel_rfl)) (Lib.hid (by kernel_rfl)) (.inl ⟨rfl, by decide, by decide⟩) (.inl ⟨rfl, by decide, by decide⟩) (.inl ⟨rfl, by decide, by decide⟩)
end Go.Proofs.YtakahpbondaidaaGreatDoor
