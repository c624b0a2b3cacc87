/- Contract: conv.Strict. -/
import Derived.Test.YtgljfgkkolfnbaaGreatDoorUC
namespace Go.Proofs.YtgljfgkkolfnbaaGreatDoor
open Go.RowKit

theorem mayV_cases {k p q : Int} {g : Bool} {xs us : List Nat} {r : Int} (h : mayV k p q g xs us r = true) :
  ((k = 0 ∨ k = 1) ∧ p = 0 ∧ q = 0 ∧ g = false ∧ xs = [] ∧ us = [] ∧ r = 0) ∨
  (k = 2 ∧ p = 0 ∧ q = 0 ∧ g = false ∧ xs = [] ∧ us = [] ∧ (r = 0 ∨ r = 1)) ∨
  (k = 3 ∧ mayB p q = true ∧ g = false ∧ xs = [] ∧ us = [] ∧ r = 0) ∨
  (k = 4 ∧ p = 0 ∧ q = 0 ∧ Bg.mayL g xs = true ∧ us = [] ∧ r = 0) ∨
  (k = 5 ∧ p = 0 ∧ q = 0 ∧ g = false ∧ xs = [] ∧ us.length ≤ 4096 ∧ r = 0) ∨
  (k = 6 ∧ p = 0 ∧ q = 0 ∧ g = false ∧ xs = [] ∧ us = [] ∧ 0 ≤ r) := by
  unfold mayV at h
  exact of_decide_eq_true h
/-- A valid value, with all its fields. -/
theorem NV.gen {w : World} {v' : Value} {x : JV} (h : NV w v' x) : ∃ (k p q : Int) (g : Bool) (A C : Option Addr) (xs us : List Nat) (n c m d : Nat) (r : Int), v' = (Value.agg #[.int .i64 k, .int .i64 p, .int .i64 q, .bool g, .slice A n c, .slice C m d, .int .i64 r]) ∧ VM w A xs n c C us m d ∧ n ≤ 1048576 ∧ jv k p q g xs us r = x ∧ mayV k p q g xs us r = true := by
  cases x with
  | undef =>
    obtain ⟨A, C, c, d, rfl, h1, h2⟩ := h
    exact ⟨_, _, _, _, _, _, [], [], _, _, _, _, _, rfl, ⟨Ar.nil _ _ _ _ h1 _, Ar.nil _ _ _ _ h2 _⟩, by omega, rfl, rfl⟩
  | null =>
    obtain ⟨A, C, c, d, rfl, h1, h2⟩ := h
    exact ⟨_, _, _, _, _, _, [], [], _, _, _, _, _, rfl, ⟨Ar.nil _ _ _ _ h1 _, Ar.nil _ _ _ _ h2 _⟩, by omega, rfl, rfl⟩
  | bool b =>
    obtain ⟨A, C, c, d, rfl, h1, h2⟩ := h
    refine ⟨_, _, _, _, _, _, [], [], _, _, _, _, _, rfl, ⟨Ar.nil _ _ _ _ h1 _, Ar.nil _ _ _ _ h2 _⟩, by omega, ?_, ?_⟩ <;> cases b <;> rfl
  | num p q =>
    obtain ⟨A, C, c, d, rfl, h1, h2, h3⟩ := h
    have e : mayV 3 p q false [] [] 0 = true := by unfold mayV; simp [mayB_isV h3]
    exact ⟨_, _, _, _, _, _, [], [], _, _, _, _, _, rfl, ⟨Ar.nil _ _ _ _ h1 _, Ar.nil _ _ _ _ h2 _⟩, by omega, by unfold jv; rw [if_pos e]; rfl, e⟩
  | big z =>
    obtain ⟨g, A, C, xs, n, c, d, rfl, h1, h2, rfl, h4⟩ := h
    have e : mayV 4 0 0 g xs [] 0 = true := by unfold mayV; simp [h2]
    exact ⟨_, _, _, _, _, _, xs, [], _, _, _, _, _, rfl, ⟨ar_arg h4, Ar.nil _ _ _ _ h1 _⟩, by have := h4.few; have := h4.len; omega, by unfold jv; rw [if_pos e]; rfl, e⟩
  | text us =>
    obtain ⟨A, C, c, m, d, rfl, h1, h2, h3⟩ := h
    have e : mayV 5 0 0 false [] us 0 = true := by unfold mayV; simp [h2]
    exact ⟨_, _, _, _, _, _, [], us, _, _, _, _, _, rfl, ⟨Ar.nil _ _ _ _ h1 _, h3⟩, by omega, by unfold jv; rw [if_pos e]; rfl, e⟩
  | obj r =>
    obtain ⟨A, C, c, d, rfl, h1, h2, h3⟩ := h
    have e : mayV 6 0 0 false [] [] r = true := by unfold mayV; simp [h3]
    exact ⟨_, _, _, _, _, _, [], [], _, _, _, _, _, rfl, ⟨Ar.nil _ _ _ _ h1 _, Ar.nil _ _ _ _ h2 _⟩, by omega, by unfold jv; rw [if_pos e]; rfl, e⟩
/-- A valid value stays what it is. -/
theorem NV.vld {w : World} {v' : Value} {x : JV} (h : NV w v' x) : Vld w v' v' := by
  obtain ⟨k, p, q, g, A, C, xs, us, n, c, m, d, r, rfl, hm, hf, _, hv⟩ := h.gen
  exact fun w1 hp => valid_y (Lib.hid hv) w1 (Lib.hid (hm.plus hp)) hf
set_option maxRecDepth 100000 in
set_option maxHeartbeats 4000000 in
theorem strict_d {ka pa qa : Int} {ga : Bool} {Aa Ca : Option Addr} {na ca ma da : Nat} {ra : Int} {kb pb qb : Int} {gb : Bool} {Ab Cb : Option Addr} {nb cb mb db : Nat} {rb : Int} {k2 p2 q2 : Int} {g2 : Bool} {A2 C2 : Option Addr} {n2 c2 m2 d2 : Nat} {r2 : Int} {k3 p3 q3 : Int} {g3 : Bool} {A3 C3 : Option Addr} {n3 c3 m3 d3 : Nat} {r3 : Int} (w : World) (hva : Hid (Vld w (Value.agg #[.int .i64 ka, .int .i64 pa, .int .i64 qa, .bool ga, .slice Aa na ca, .slice Ca ma da, .int .i64 ra]) (Value.agg #[.int .i64 k2, .int .i64 p2, .int .i64 q2, .bool g2, .slice A2 n2 c2, .slice C2 m2 d2, .int .i64 r2]))) (hvb : Hid (Vld w (Value.agg #[.int .i64 kb, .int .i64 pb, .int .i64 qb, .bool gb, .slice Ab nb cb, .slice Cb mb db, .int .i64 rb]) (Value.agg #[.int .i64 k3, .int .i64 p3, .int .i64 q3, .bool g3, .slice A3 n3 c3, .slice C3 m3 d3, .int .i64 r3]))) (b0 : (k2 != k3) = true) : Calls Tryz.prog 21 #[Value.agg #[.int .i64 ka, .int .i64 pa, .int .i64 qa, .bool ga, .slice Aa na ca, .slice Ca ma da, .int .i64 ra], Value.agg #[.int .i64 kb, .int .i64 pb, .int .i64 qb, .bool gb, .slice Ab nb cb, .slice Cb mb db, .int .i64 rb]] w fun e w' => e = .returned (.bool false) ∧ Plus w w' := by
  go_enter Tryz.func21, Tryz.ntmps21
  go_upto_region 1 with fail
  go_cut [] (fun wx => ∃ x1 x2, wx = plus (plus ((w.alloc (.cells #[.int .i64 k2, .int .i64 p2, .int .i64 q2, .bool g2, .slice A2 n2 c2, .slice C2 m2 d2, .int .i64 r2] 29)).alloc (.cells #[.int .i64 k3, .int .i64 p3, .int .i64 q3, .bool g3, .slice A3 n3 c3, .slice C3 m3 d3, .int .i64 r3] 29)) x1) x2)
  case first =>
    go_region_with (first | (go_at_call_of 64 (Value.agg #[.int .i64 ka, .int .i64 pa, .int .i64 qa, .bool ga, .slice Aa na ca, .slice Ca ma da, .int .i64 ra]); (with_reducible refine (Vld.call hva.out (by repeat' (first | exact Plus.refl _ | refine Plus.alloc ?_ _ | refine Plus.plus ?_ _ | refine Plus.drew ?_ | refine Plus.drewN ?_ _))).mono ?_); rintro e w1 ⟨rfl, ⟨x1, rfl⟩⟩) | (go_at_call_of 64 (Value.agg #[.int .i64 kb, .int .i64 pb, .int .i64 qb, .bool gb, .slice Ab nb cb, .slice Cb mb db, .int .i64 rb]); (with_reducible refine (Vld.call hvb.out (by repeat' (first | exact Plus.refl _ | refine Plus.alloc ?_ _ | refine Plus.plus ?_ _ | refine Plus.drew ?_ | refine Plus.drewN ?_ _))).mono ?_); rintro e w1 ⟨rfl, ⟨y1, rfl⟩⟩))
    all_goals
      go_wp2_with fail
      go_meet
      exact ⟨_, _, rfl⟩
  case rest =>
    obtain ⟨x1, x2, rfl⟩ := hcut
    go_wp2_with fail
    go_returns
    exact ⟨rfl, (by repeat' (first | exact Plus.refl _ | refine Plus.alloc ?_ _ | refine Plus.plus ?_ _ | refine Plus.drew ?_ | refine Plus.drewN ?_ _))⟩
theorem nequal_v {k n l m : Int} {b : Bool} (h : Hid (equalR k n l m = b)) (w : World) : Calls Tryz.prog 65 #[.agg #[.int .i64 k, .int .i64 n], .agg #[.int .i64 l, .int .i64 m]] w fun e w' => e = .returned (.bool b) ∧ Plus w w' := by
  rw [← h.out]
  exact numEqual_c k n l m w
set_option maxRecDepth 100000 in
set_option maxHeartbeats 4000000 in
theorem strict_3 {ka pa qa : Int} {ga : Bool} {Aa Ca : Option Addr} {na ca ma da : Nat} {ra : Int} {kb pb qb : Int} {gb : Bool} {Ab Cb : Option Addr} {nb cb mb db : Nat} {rb : Int} {p2 q2 : Int} {g2 : Bool} {A2 C2 : Option Addr} {n2 c2 m2 d2 : Nat} {r2 : Int} {p3 q3 : Int} {g3 : Bool} {A3 C3 : Option Addr} {n3 c3 m3 d3 : Nat} {r3 : Int} {b : Bool} (w : World) (hva : Hid (Vld w (Value.agg #[.int .i64 ka, .int .i64 pa, .int .i64 qa, .bool ga, .slice Aa na ca, .slice Ca ma da, .int .i64 ra]) (Value.agg #[.int .i64 3, .int .i64 p2, .int .i64 q2, .bool g2, .slice A2 n2 c2, .slice C2 m2 d2, .int .i64 r2]))) (hvb : Hid (Vld w (Value.agg #[.int .i64 kb, .int .i64 pb, .int .i64 qb, .bool gb, .slice Ab nb cb, .slice Cb mb db, .int .i64 rb]) (Value.agg #[.int .i64 3, .int .i64 p3, .int .i64 q3, .bool g3, .slice A3 n3 c3, .slice C3 m3 d3, .int .i64 r3]))) (hb : Hid (equalR p2 q2 p3 q3 = b)) : Calls Tryz.prog 21 #[Value.agg #[.int .i64 ka, .int .i64 pa, .int .i64 qa, .bool ga, .slice Aa na ca, .slice Ca ma da, .int .i64 ra], Value.agg #[.int .i64 kb, .int .i64 pb, .int .i64 qb, .bool gb, .slice Ab nb cb, .slice Cb mb db, .int .i64 rb]] w fun e w' => e = .returned (.bool b) ∧ Plus w w' := by
  go_enter Tryz.func21, Tryz.ntmps21
  go_upto_region 1 with fail
  go_cut [] (fun wx => ∃ x1 x2, wx = plus (plus ((w.alloc (.cells #[.int .i64 3, .int .i64 p2, .int .i64 q2, .bool g2, .slice A2 n2 c2, .slice C2 m2 d2, .int .i64 r2] 29)).alloc (.cells #[.int .i64 3, .int .i64 p3, .int .i64 q3, .bool g3, .slice A3 n3 c3, .slice C3 m3 d3, .int .i64 r3] 29)) x1) x2)
  case first =>
    go_region_with (first | (go_at_call_of 64 (Value.agg #[.int .i64 ka, .int .i64 pa, .int .i64 qa, .bool ga, .slice Aa na ca, .slice Ca ma da, .int .i64 ra]); (with_reducible refine (Vld.call hva.out (by repeat' (first | exact Plus.refl _ | refine Plus.alloc ?_ _ | refine Plus.plus ?_ _ | refine Plus.drew ?_ | refine Plus.drewN ?_ _))).mono ?_); rintro e w1 ⟨rfl, ⟨x1, rfl⟩⟩) | (go_at_call_of 64 (Value.agg #[.int .i64 kb, .int .i64 pb, .int .i64 qb, .bool gb, .slice Ab nb cb, .slice Cb mb db, .int .i64 rb]); (with_reducible refine (Vld.call hvb.out (by repeat' (first | exact Plus.refl _ | refine Plus.alloc ?_ _ | refine Plus.plus ?_ _ | refine Plus.drew ?_ | refine Plus.drewN ?_ _))).mono ?_); rintro e w1 ⟨rfl, ⟨y1, rfl⟩⟩))
    all_goals
      go_wp2_with fail
      go_meet
      exact ⟨_, _, rfl⟩
  case rest =>
    obtain ⟨x1, x2, rfl⟩ := hcut
    go_wp2_with (go_at_call 65; (with_reducible refine (nequal_v hb _).mono ?_); rintro e w1 ⟨rfl, ⟨x3, rfl⟩⟩)
    go_returns
    exact ⟨rfl, (by repeat' (first | exact Plus.refl _ | refine Plus.alloc ?_ _ | refine Plus.plus ?_ _ | refine Plus.drew ?_ | refine Plus.drewN ?_ _))⟩
set_option maxRecDepth 100000 in
set_option maxHeartbeats 4000000 in
theorem strict_s {ka pa qa : Int} {ga : Bool} {Aa Ca : Option Addr} {na ca ma da : Nat} {ra : Int} {kb pb qb : Int} {gb : Bool} {Ab Cb : Option Addr} {nb cb mb db : Nat} {rb : Int} {k2 p2 q2 : Int} {g2 : Bool} {A2 C2 : Option Addr} {xs2 us2 : List Nat} {n2 c2 m2 d2 : Nat} {r2 : Int} {p3 q3 : Int} {g3 : Bool} {A3 C3 : Option Addr} {xs3 us3 : List Nat} {n3 c3 m3 d3 : Nat} {r3 : Int} {z : Bool} (w : World) (hva : Hid (Vld w (Value.agg #[.int .i64 ka, .int .i64 pa, .int .i64 qa, .bool ga, .slice Aa na ca, .slice Ca ma da, .int .i64 ra]) (Value.agg #[.int .i64 k2, .int .i64 p2, .int .i64 q2, .bool g2, .slice A2 n2 c2, .slice C2 m2 d2, .int .i64 r2]))) (hvb : Hid (Vld w (Value.agg #[.int .i64 kb, .int .i64 pb, .int .i64 qb, .bool gb, .slice Ab nb cb, .slice Cb mb db, .int .i64 rb]) (Value.agg #[.int .i64 k2, .int .i64 p3, .int .i64 q3, .bool g3, .slice A3 n3 c3, .slice C3 m3 d3, .int .i64 r3]))) (h2 : Hid (VM w A2 xs2 n2 c2 C2 us2 m2 d2)) (h3 : Hid (VM w A3 xs3 n3 c3 C3 us3 m3 d3)) (b0 : (k2 == 3) = false) (hz : Hid (sameV k2 p2 q2 g2 xs2 us2 r2 k2 p3 q3 g3 xs3 us3 r3 = z)) : Calls Tryz.prog 21 #[Value.agg #[.int .i64 ka, .int .i64 pa, .int .i64 qa, .bool ga, .slice Aa na ca, .slice Ca ma da, .int .i64 ra], Value.agg #[.int .i64 kb, .int .i64 pb, .int .i64 qb, .bool gb, .slice Ab nb cb, .slice Cb mb db, .int .i64 rb]] w fun e w' => e = .returned (.bool z) ∧ Plus w w' := by
  go_enter Tryz.func21, Tryz.ntmps21
  go_upto_region 1 with fail
  go_cut [] (fun wx => ∃ x1 x2, wx = plus (plus ((w.alloc (.cells #[.int .i64 k2, .int .i64 p2, .int .i64 q2, .bool g2, .slice A2 n2 c2, .slice C2 m2 d2, .int .i64 r2] 29)).alloc (.cells #[.int .i64 k2, .int .i64 p3, .int .i64 q3, .bool g3, .slice A3 n3 c3, .slice C3 m3 d3, .int .i64 r3] 29)) x1) x2)
  case first =>
    go_region_with (first | (go_at_call_of 64 (Value.agg #[.int .i64 ka, .int .i64 pa, .int .i64 qa, .bool ga, .slice Aa na ca, .slice Ca ma da, .int .i64 ra]); (with_reducible refine (Vld.call hva.out (by repeat' (first | exact Plus.refl _ | refine Plus.alloc ?_ _ | refine Plus.plus ?_ _ | refine Plus.drew ?_ | refine Plus.drewN ?_ _))).mono ?_); rintro e w1 ⟨rfl, ⟨x1, rfl⟩⟩) | (go_at_call_of 64 (Value.agg #[.int .i64 kb, .int .i64 pb, .int .i64 qb, .bool gb, .slice Ab nb cb, .slice Cb mb db, .int .i64 rb]); (with_reducible refine (Vld.call hvb.out (by repeat' (first | exact Plus.refl _ | refine Plus.alloc ?_ _ | refine Plus.plus ?_ _ | refine Plus.drew ?_ | refine Plus.drewN ?_ _))).mono ?_); rintro e w1 ⟨rfl, ⟨y1, rfl⟩⟩))
    all_goals
      go_wp2_with fail
      go_meet
      exact ⟨_, _, rfl⟩
  case rest =>
    obtain ⟨x1, x2, rfl⟩ := hcut
    go_wp2_with (go_at_call 20; (with_reducible refine (hsame_v hz _ (h2.out.plus (by repeat' (first | exact Plus.refl _ | refine Plus.alloc ?_ _ | refine Plus.plus ?_ _ | refine Plus.drew ?_ | refine Plus.drewN ?_ _))) (h3.out.plus (by repeat' (first | exact Plus.refl _ | refine Plus.alloc ?_ _ | refine Plus.plus ?_ _ | refine Plus.drew ?_ | refine Plus.drewN ?_ _)))).mono ?_); rintro e w1 ⟨rfl, ⟨x3, rfl⟩⟩)
    go_returns
    exact ⟨rfl, (by repeat' (first | exact Plus.refl _ | refine Plus.alloc ?_ _ | refine Plus.plus ?_ _ | refine Plus.drew ?_ | refine Plus.drewN ?_ _))⟩
def strictJ : JV → JV → Bool
  | .undef, .undef => true
  | .null, .null => true
  | .bool a, .bool b => a == b
  | .num p q, .num r s => equalS p q r s
  | .big a, .big b => decide (a = b)
  | .text u, .text v => decide (u = v)
  | .obj a, .obj b => decide (a = b)
  | _, _ => false
def strictV (k p q : Int) (g : Bool) (xs us : List Nat) (r k2 p2 q2 : Int) (g2 : Bool) (xs2 us2 : List Nat) (r2 : Int) : Bool :=
  if k = k2 then (if k = 3 then equalR p q p2 q2 else sameV k p q g xs us r k2 p2 q2 g2 xs2 us2 r2) else false
theorem big_inj {g h : Bool} {xs ys : List Nat} (o1 : Bg.okL xs) (o2 : Bg.okL ys) (h1 : Bg.mayL g xs = true) (h2 : Bg.mayL h ys = true) : (Bg.bigI g xs = Bg.bigI h ys) ↔ (g = h ∧ xs = ys) := by
  constructor
  · intro e
    obtain ⟨a1, a2, _⟩ := Bg.may_yes o1 h1
    obtain ⟨b1, b2, _⟩ := Bg.may_yes o2 h2
    rw [e] at a1 a2
    exact ⟨a2.trans b2.symm, a1.trans b1.symm⟩
  · rintro ⟨rfl, rfl⟩; rfl
set_option maxRecDepth 100000 in
theorem strictV_jv {k p q : Int} {g : Bool} {xs us : List Nat} {r k2 p2 q2 : Int} {g2 : Bool} {xs2 us2 : List Nat} {r2 : Int} (o1 : Bg.okL xs) (o2 : Bg.okL xs2) (h : mayV k p q g xs us r = true) (h2 : mayV k2 p2 q2 g2 xs2 us2 r2 = true) :
    strictV k p q g xs us r k2 p2 q2 g2 xs2 us2 r2 = strictJ (jv k p q g xs us r) (jv k2 p2 q2 g2 xs2 us2 r2) := by
  unfold jv strictV
  rw [if_pos h, if_pos h2]
  rcases mayV_cases h with ⟨hk, rfl, rfl, rfl, rfl, rfl, rfl⟩ | ⟨rfl, rfl, rfl, rfl, rfl, rfl, hr⟩ | ⟨rfl, hb, rfl, rfl, rfl, rfl⟩ | ⟨rfl, rfl, rfl, hb, rfl, rfl⟩ | ⟨rfl, rfl, rfl, rfl, rfl, hb, rfl⟩ | ⟨rfl, rfl, rfl, rfl, rfl, rfl, hr⟩ <;>
    rcases mayV_cases h2 with ⟨hk2, rfl, rfl, rfl, rfl, rfl, rfl⟩ | ⟨rfl, rfl, rfl, rfl, rfl, rfl, hr2⟩ | ⟨rfl, hb2, rfl, rfl, rfl, rfl⟩ | ⟨rfl, rfl, rfl, hb2, rfl, rfl⟩ | ⟨rfl, rfl, rfl, rfl, rfl, hb2, rfl⟩ | ⟨rfl, rfl, rfl, rfl, rfl, rfl, hr2⟩
  all_goals first
    | (rcases hk with rfl | rfl <;> rcases hk2 with rfl | rfl <;> decide)
    | (rcases hk with rfl | rfl <;> simp [strictJ])
    | (rcases hk2 with rfl | rfl <;> simp [strictJ])
    | (rcases hr with rfl | rfl <;> rcases hr2 with rfl | rfl <;> decide)
    | (simp [strictJ]; done)
    | (simp only [strictJ, if_true, equalR, vk_of (isV_of_mayB hb), vn_of (isV_of_mayB hb), vk_of (isV_of_mayB hb2), vn_of (isV_of_mayB hb2)]; simp; done)
    | (simp [strictJ, sameV, big_inj o1 o2 hb hb2]; done)
    | (simp [strictJ, sameV]; done)
theorem cstrict_v {ka pa qa : Int} {ga : Bool} {Aa Ca : Option Addr} {na ca ma da : Nat} {ra : Int} {kb pb qb : Int} {gb : Bool} {Ab Cb : Option Addr} {nb cb mb db : Nat} {rb : Int} {u v : Value} {x y : JV} {z : Bool} (hz : Hid (strictJ x y = z)) (w : World) (hx : NV w u x) (hy : NV w v y) (hva : Vld w (Value.agg #[.int .i64 ka, .int .i64 pa, .int .i64 qa, .bool ga, .slice Aa na ca, .slice Ca ma da, .int .i64 ra]) u) (hvb : Vld w (Value.agg #[.int .i64 kb, .int .i64 pb, .int .i64 qb, .bool gb, .slice Ab nb cb, .slice Cb mb db, .int .i64 rb]) v) : Calls Tryz.prog 21 #[Value.agg #[.int .i64 ka, .int .i64 pa, .int .i64 qa, .bool ga, .slice Aa na ca, .slice Ca ma da, .int .i64 ra], Value.agg #[.int .i64 kb, .int .i64 pb, .int .i64 qb, .bool gb, .slice Ab nb cb, .slice Cb mb db, .int .i64 rb]] w fun e w' => e = .returned (.bool z) ∧ Plus w w' := by
  obtain ⟨k2, p2, q2, g2, A2, C2, xs2, us2, n2, c2, m2, d2, r2, rfl, m2', _, e2, f2⟩ := hx.gen
  obtain ⟨k3, p3, q3, g3, A3, C3, xs3, us3, n3, c3, m3, d3, r3, rfl, m3', _, e3, f3⟩ := hy.gen
  have q := strictV_jv m2'.b.bd m3'.b.bd f2 f3
  rw [e2, e3, hz.out] at q
  subst q
  unfold strictV
  by_cases hk : k2 = k3
  · subst hk
    rw [if_pos rfl]
    by_cases h3 : k2 = 3
    · subst h3
      rw [if_pos rfl]
      exact strict_3 w (Lib.hid hva) (Lib.hid hvb) (Lib.hid rfl)
    · rw [if_neg h3]
      exact strict_s w (Lib.hid hva) (Lib.hid hvb) (Lib.hid m2') (Lib.hid m3') (beq_f h3) (Lib.hid rfl)
  · rw [if_neg hk]
    exact strict_d w (Lib.hid hva) (Lib.hid hvb) (by simp [hk])
end Go.Proofs.YtgljfgkkolfnbaaGreatDoor
