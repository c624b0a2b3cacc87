/- Contract: heap.May, first part: by kinds. -/
import Derived.Test.YtmlfcmmgoiigkaaGreatDoorV2
namespace Go.Proofs.YtmlfcmmgoiigkaaGreatDoor
open Go.RowKit

theorem hsame_v {k p q : Int} {g : Bool} {A C : Option Addr} {xs us : List Nat} {n c m d : Nat} {r : Int} {k2 p2 q2 : Int} {g2 : Bool} {A2 C2 : Option Addr} {xs2 us2 : List Nat} {n2 c2 m2 d2 : Nat} {r2 : Int} {z : Bool} (h : Hid (sameV k p q g xs us r k2 p2 q2 g2 xs2 us2 r2 = z)) (w : World) (h1 : VM w A xs n c C us m d) (h2 : VM w A2 xs2 n2 c2 C2 us2 m2 d2) :
    Calls Tryz.prog 42 #[Value.agg #[.int .i64 k, .int .i64 p, .int .i64 q, .bool g, .slice A n c, .slice C m d, .int .i64 r], Value.agg #[.int .i64 k2, .int .i64 p2, .int .i64 q2, .bool g2, .slice A2 n2 c2, .slice C2 m2 d2, .int .i64 r2]] w fun e w' => e = .returned (.bool z) ∧ Plus w w' := by
  rw [← h.out]
  exact hsame_c _ _ _ _ _ _ _ _ _ _ _ _ _ _ _ _ _ _ _ _ _ _ _ _ _ _ w h1 h2
theorem bmay_v {g : Bool} {A : Option Addr} {xs : List Nat} {n c : Nat} {v : Bool} (hr : Hid (Bg.mayL g xs = v)) (w : World) (ha : Bg.Arg w A xs n c) :
    Calls Tryz.prog 81 #[.agg #[.bool g, .slice A n c]] w fun e w' => e = .returned (.bool v) ∧ Plus w w' := Bg.may_n hr w ha
theorem nmay_v {p q : Int} {v : Bool} (h : Hid (mayB p q = v)) (w : World) : Calls Tryz.prog 80 #[.agg #[.int .i64 p, .int .i64 q]] w fun e w' => e = .returned (.bool v) ∧ Plus w w' := by
  rw [← h.out]
  exact may_c p q w
set_option maxRecDepth 100000 in
set_option maxHeartbeats 4000000 in
theorem may_0y {p q : Int} {g : Bool} {A C : Option Addr} {xs us : List Nat} {n c m d : Nat} {r : Int} {z : Bool} (w : World) (H : Hid (VM w A xs n c C us m d)) (hz : Hid (sameV 0 p q g xs us r 0 0 0 false [] [] 0 = z)) : Calls Tryz.prog 41 #[Value.agg #[.int .i64 0, .int .i64 p, .int .i64 q, .bool g, .slice A n c, .slice C m d, .int .i64 r]] w fun e w' => e = .returned (.bool z) ∧ Plus w w' := by
  go_enter Tryz.func41, Tryz.ntmps41
  go_wp2_with (go_at_call 42; (with_reducible refine (hsame_v hz _ (H.out.plus (by repeat' (first | exact Plus.refl _ | refine Plus.alloc ?_ _ | refine Plus.plus ?_ _ | refine Plus.drew ?_ | refine Plus.drewN ?_ _))) ⟨(Ar.nil _ _ _ _ (by omega) _), (Ar.nil _ _ _ _ (by omega) _)⟩).mono ?_); rintro e w1 ⟨rfl, ⟨x9, rfl⟩⟩)
  all_goals go_returns
  all_goals exact ⟨rfl, (by repeat' (first | exact Plus.refl _ | refine Plus.alloc ?_ _ | refine Plus.plus ?_ _ | refine Plus.drew ?_ | refine Plus.drewN ?_ _))⟩
set_option maxRecDepth 100000 in
set_option maxHeartbeats 4000000 in
theorem may_1y {p q : Int} {g : Bool} {A C : Option Addr} {xs us : List Nat} {n c m d : Nat} {r : Int} {z : Bool} (w : World) (H : Hid (VM w A xs n c C us m d)) (hz : Hid (sameV 1 p q g xs us r 1 0 0 false [] [] 0 = z)) : Calls Tryz.prog 41 #[Value.agg #[.int .i64 1, .int .i64 p, .int .i64 q, .bool g, .slice A n c, .slice C m d, .int .i64 r]] w fun e w' => e = .returned (.bool z) ∧ Plus w w' := by
  go_enter Tryz.func41, Tryz.ntmps41
  go_wp2_with (go_at_call 42; (with_reducible refine (hsame_v hz _ (H.out.plus (by repeat' (first | exact Plus.refl _ | refine Plus.alloc ?_ _ | refine Plus.plus ?_ _ | refine Plus.drew ?_ | refine Plus.drewN ?_ _))) ⟨(Ar.nil _ _ _ _ (by omega) _), (Ar.nil _ _ _ _ (by omega) _)⟩).mono ?_); rintro e w1 ⟨rfl, ⟨x9, rfl⟩⟩)
  all_goals go_returns
  all_goals exact ⟨rfl, (by repeat' (first | exact Plus.refl _ | refine Plus.alloc ?_ _ | refine Plus.plus ?_ _ | refine Plus.drew ?_ | refine Plus.drewN ?_ _))⟩
set_option maxRecDepth 100000 in
set_option maxHeartbeats 4000000 in
theorem may_2y0 {p q : Int} {g : Bool} {A C : Option Addr} {xs us : List Nat} {n c m d : Nat} {r : Int} {z : Bool} (w : World) (H : Hid (VM w A xs n c C us m d)) (hz : Hid (sameV 2 p q g xs us r 2 0 0 false [] [] r = z)) (hr : r = 0) : Calls Tryz.prog 41 #[Value.agg #[.int .i64 2, .int .i64 p, .int .i64 q, .bool g, .slice A n c, .slice C m d, .int .i64 r]] w fun e w' => e = .returned (.bool z) ∧ Plus w w' := by
  subst hr
  go_enter Tryz.func41, Tryz.ntmps41
  go_wp2_with fail
  go_region
  all_goals go_wp2_with (go_at_call 42; (with_reducible refine (hsame_v hz _ (H.out.plus (by repeat' (first | exact Plus.refl _ | refine Plus.alloc ?_ _ | refine Plus.plus ?_ _ | refine Plus.drew ?_ | refine Plus.drewN ?_ _))) ⟨(Ar.nil _ _ _ _ (by omega) _), (Ar.nil _ _ _ _ (by omega) _)⟩).mono ?_); rintro e w1 ⟨rfl, ⟨x9, rfl⟩⟩)
  all_goals go_returns
  all_goals exact ⟨rfl, (by repeat' (first | exact Plus.refl _ | refine Plus.alloc ?_ _ | refine Plus.plus ?_ _ | refine Plus.drew ?_ | refine Plus.drewN ?_ _))⟩
set_option maxRecDepth 100000 in
set_option maxHeartbeats 4000000 in
theorem may_2y1 {p q : Int} {g : Bool} {A C : Option Addr} {xs us : List Nat} {n c m d : Nat} {r : Int} {z : Bool} (w : World) (H : Hid (VM w A xs n c C us m d)) (hz : Hid (sameV 2 p q g xs us r 2 0 0 false [] [] r = z)) (hr : r = 1) : Calls Tryz.prog 41 #[Value.agg #[.int .i64 2, .int .i64 p, .int .i64 q, .bool g, .slice A n c, .slice C m d, .int .i64 r]] w fun e w' => e = .returned (.bool z) ∧ Plus w w' := by
  subst hr
  go_enter Tryz.func41, Tryz.ntmps41
  go_wp2_with fail
  go_region
  all_goals go_wp2_with (go_at_call 42; (with_reducible refine (hsame_v hz _ (H.out.plus (by repeat' (first | exact Plus.refl _ | refine Plus.alloc ?_ _ | refine Plus.plus ?_ _ | refine Plus.drew ?_ | refine Plus.drewN ?_ _))) ⟨(Ar.nil _ _ _ _ (by omega) _), (Ar.nil _ _ _ _ (by omega) _)⟩).mono ?_); rintro e w1 ⟨rfl, ⟨x9, rfl⟩⟩)
  all_goals go_returns
  all_goals exact ⟨rfl, (by repeat' (first | exact Plus.refl _ | refine Plus.alloc ?_ _ | refine Plus.plus ?_ _ | refine Plus.drew ?_ | refine Plus.drewN ?_ _))⟩
set_option maxRecDepth 100000 in
set_option maxHeartbeats 4000000 in
theorem may_2n {p q : Int} {g : Bool} {A C : Option Addr} {n c m d : Nat} {r : Int} (w : World) (h0 : (r == 0) = false) (h1 : (r == 1) = false) : Calls Tryz.prog 41 #[Value.agg #[.int .i64 2, .int .i64 p, .int .i64 q, .bool g, .slice A n c, .slice C m d, .int .i64 r]] w fun e w' => e = .returned (.bool false) ∧ Plus w w' := by
  go_enter Tryz.func41, Tryz.ntmps41
  go_wp2_with fail
  go_region
  all_goals go_wp2_with fail
  all_goals go_returns
  all_goals exact ⟨rfl, (by repeat' (first | exact Plus.refl _ | refine Plus.alloc ?_ _ | refine Plus.plus ?_ _ | refine Plus.drew ?_ | refine Plus.drewN ?_ _))⟩
set_option maxRecDepth 100000 in
set_option maxHeartbeats 4000000 in
theorem may_3y {p q : Int} {g : Bool} {A C : Option Addr} {xs us : List Nat} {n c m d : Nat} {r : Int} {z : Bool} (w : World) (H : Hid (VM w A xs n c C us m d)) (hz : Hid (sameV 3 p q g xs us r 3 p q false [] [] 0 = z)) (hm : Hid (mayB p q = true)) : Calls Tryz.prog 41 #[Value.agg #[.int .i64 3, .int .i64 p, .int .i64 q, .bool g, .slice A n c, .slice C m d, .int .i64 r]] w fun e w' => e = .returned (.bool z) ∧ Plus w w' := by
  go_enter Tryz.func41, Tryz.ntmps41
  go_wp2_with fail
  go_region_with (go_at_call 80; (with_reducible refine (nmay_v hm _).mono ?_); rintro e w1 ⟨rfl, ⟨x1, rfl⟩⟩)
  all_goals go_wp2_with (go_at_call 42; (with_reducible refine (hsame_v hz _ (H.out.plus (by repeat' (first | exact Plus.refl _ | refine Plus.alloc ?_ _ | refine Plus.plus ?_ _ | refine Plus.drew ?_ | refine Plus.drewN ?_ _))) ⟨(Ar.nil _ _ _ _ (by omega) _), (Ar.nil _ _ _ _ (by omega) _)⟩).mono ?_); rintro e w1 ⟨rfl, ⟨x9, rfl⟩⟩)
  all_goals go_returns
  all_goals exact ⟨rfl, (by repeat' (first | exact Plus.refl _ | refine Plus.alloc ?_ _ | refine Plus.plus ?_ _ | refine Plus.drew ?_ | refine Plus.drewN ?_ _))⟩
set_option maxRecDepth 100000 in
set_option maxHeartbeats 4000000 in
theorem may_3n {p q : Int} {g : Bool} {A C : Option Addr} {n c m d : Nat} {r : Int} (w : World) (hm : Hid (mayB p q = false)) : Calls Tryz.prog 41 #[Value.agg #[.int .i64 3, .int .i64 p, .int .i64 q, .bool g, .slice A n c, .slice C m d, .int .i64 r]] w fun e w' => e = .returned (.bool false) ∧ Plus w w' := by
  go_enter Tryz.func41, Tryz.ntmps41
  go_wp2_with fail
  go_region_with (go_at_call 80; (with_reducible refine (nmay_v hm _).mono ?_); rintro e w1 ⟨rfl, ⟨x1, rfl⟩⟩)
  all_goals go_wp2_with fail
  all_goals go_returns
  all_goals exact ⟨rfl, (by repeat' (first | exact Plus.refl _ | refine Plus.alloc ?_ _ | refine Plus.plus ?_ _ | refine Plus.drew ?_ | refine Plus.drewN ?_ _))⟩
set_option maxRecDepth 100000 in
set_option maxHeartbeats 4000000 in
theorem may_4y {p q : Int} {g : Bool} {A C : Option Addr} {xs us : List Nat} {n c m d : Nat} {r : Int} {z : Bool} (w : World) (H : Hid (VM w A xs n c C us m d)) (hz : Hid (sameV 4 p q g xs us r 4 0 0 g xs [] 0 = z)) (hf : n ≤ 1048576) (hm : Hid (Bg.mayL g xs = true)) : Calls Tryz.prog 41 #[Value.agg #[.int .i64 4, .int .i64 p, .int .i64 q, .bool g, .slice A n c, .slice C m d, .int .i64 r]] w fun e w' => e = .returned (.bool z) ∧ Plus w w' := by
  go_enter Tryz.func41, Tryz.ntmps41
  go_wp2_with fail
  go_region_with (go_at_call 81; (with_reducible refine (bmay_v hm _ (arg_ar (H.out.b.plus (by repeat' (first | exact Plus.refl _ | refine Plus.alloc ?_ _ | refine Plus.plus ?_ _ | refine Plus.drew ?_ | refine Plus.drewN ?_ _))) hf)).mono ?_); rintro e w1 ⟨rfl, ⟨x1, rfl⟩⟩)
  all_goals go_wp2_with (go_at_call 42; (with_reducible refine (hsame_v hz _ (H.out.plus (by repeat' (first | exact Plus.refl _ | refine Plus.alloc ?_ _ | refine Plus.plus ?_ _ | refine Plus.drew ?_ | refine Plus.drewN ?_ _))) ⟨(H.out.b.plus (by repeat' (first | exact Plus.refl _ | refine Plus.alloc ?_ _ | refine Plus.plus ?_ _ | refine Plus.drew ?_ | refine Plus.drewN ?_ _))), (Ar.nil _ _ _ _ (by omega) _)⟩).mono ?_); rintro e w1 ⟨rfl, ⟨x9, rfl⟩⟩)
  all_goals go_returns
  all_goals exact ⟨rfl, (by repeat' (first | exact Plus.refl _ | refine Plus.alloc ?_ _ | refine Plus.plus ?_ _ | refine Plus.drew ?_ | refine Plus.drewN ?_ _))⟩
set_option maxRecDepth 100000 in
set_option maxHeartbeats 4000000 in
theorem may_4n {p q : Int} {g : Bool} {A C : Option Addr} {xs us : List Nat} {n c m d : Nat} {r : Int} (w : World) (H : Hid (VM w A xs n c C us m d)) (hf : n ≤ 1048576) (hm : Hid (Bg.mayL g xs = false)) : Calls Tryz.prog 41 #[Value.agg #[.int .i64 4, .int .i64 p, .int .i64 q, .bool g, .slice A n c, .slice C m d, .int .i64 r]] w fun e w' => e = .returned (.bool false) ∧ Plus w w' := by
  go_enter Tryz.func41, Tryz.ntmps41
  go_wp2_with fail
  go_region_with (go_at_call 81; (with_reducible refine (bmay_v hm _ (arg_ar (H.out.b.plus (by repeat' (first | exact Plus.refl _ | refine Plus.alloc ?_ _ | refine Plus.plus ?_ _ | refine Plus.drew ?_ | refine Plus.drewN ?_ _))) hf)).mono ?_); rintro e w1 ⟨rfl, ⟨x1, rfl⟩⟩)
  all_goals go_wp2_with fail
  all_goals go_returns
  all_goals exact ⟨rfl, (by repeat' (first | exact Plus.refl _ | refine Plus.alloc ?_ _ | refine Plus.plus ?_ _ | refine Plus.drew ?_ | refine Plus.drewN ?_ _))⟩
set_option maxRecDepth 100000 in
set_option maxHeartbeats 4000000 in
theorem may_5y {p q : Int} {g : Bool} {A C : Option Addr} {xs us : List Nat} {n c m d : Nat} {r : Int} {z : Bool} (w : World) (H : Hid (VM w A xs n c C us m d)) (hz : Hid (sameV 5 p q g xs us r 5 0 0 false [] us 0 = z)) (hm : m ≤ 4096) : Calls Tryz.prog 41 #[Value.agg #[.int .i64 5, .int .i64 p, .int .i64 q, .bool g, .slice A n c, .slice C m d, .int .i64 r]] w fun e w' => e = .returned (.bool z) ∧ Plus w w' := by
  go_enter Tryz.func41, Tryz.ntmps41
  go_wp2_with fail
  go_region
  all_goals go_wp2_with (go_at_call 42; (with_reducible refine (hsame_v hz _ (H.out.plus (by repeat' (first | exact Plus.refl _ | refine Plus.alloc ?_ _ | refine Plus.plus ?_ _ | refine Plus.drew ?_ | refine Plus.drewN ?_ _))) ⟨(Ar.nil _ _ _ _ (by omega) _), (H.out.s.plus (by repeat' (first | exact Plus.refl _ | refine Plus.alloc ?_ _ | refine Plus.plus ?_ _ | refine Plus.drew ?_ | refine Plus.drewN ?_ _)))⟩).mono ?_); rintro e w1 ⟨rfl, ⟨x9, rfl⟩⟩)
  all_goals go_returns
  all_goals exact ⟨rfl, (by repeat' (first | exact Plus.refl _ | refine Plus.alloc ?_ _ | refine Plus.plus ?_ _ | refine Plus.drew ?_ | refine Plus.drewN ?_ _))⟩
set_option maxRecDepth 100000 in
set_option maxHeartbeats 4000000 in
theorem may_5n {p q : Int} {g : Bool} {A C : Option Addr} {n c m d : Nat} {r : Int} (w : World) (hm : ¬ m ≤ 4096) : Calls Tryz.prog 41 #[Value.agg #[.int .i64 5, .int .i64 p, .int .i64 q, .bool g, .slice A n c, .slice C m d, .int .i64 r]] w fun e w' => e = .returned (.bool false) ∧ Plus w w' := by
  go_enter Tryz.func41, Tryz.ntmps41
  go_wp2_with fail
  go_region
  all_goals go_wp2_with fail
  all_goals go_returns
  all_goals exact ⟨rfl, (by repeat' (first | exact Plus.refl _ | refine Plus.alloc ?_ _ | refine Plus.plus ?_ _ | refine Plus.drew ?_ | refine Plus.drewN ?_ _))⟩
set_option maxRecDepth 100000 in
set_option maxHeartbeats 4000000 in
theorem may_6y {p q : Int} {g : Bool} {A C : Option Addr} {xs us : List Nat} {n c m d : Nat} {r : Int} {z : Bool} (w : World) (H : Hid (VM w A xs n c C us m d)) (hz : Hid (sameV 6 p q g xs us r 6 0 0 false [] [] r = z)) (hm : 0 ≤ r) : Calls Tryz.prog 41 #[Value.agg #[.int .i64 6, .int .i64 p, .int .i64 q, .bool g, .slice A n c, .slice C m d, .int .i64 r]] w fun e w' => e = .returned (.bool z) ∧ Plus w w' := by
  go_enter Tryz.func41, Tryz.ntmps41
  go_wp2_with fail
  go_region
  all_goals go_wp2_with (go_at_call 42; (with_reducible refine (hsame_v hz _ (H.out.plus (by repeat' (first | exact Plus.refl _ | refine Plus.alloc ?_ _ | refine Plus.plus ?_ _ | refine Plus.drew ?_ | refine Plus.drewN ?_ _))) ⟨(Ar.nil _ _ _ _ (by omega) _), (Ar.nil _ _ _ _ (by omega) _)⟩).mono ?_); rintro e w1 ⟨rfl, ⟨x9, rfl⟩⟩)
  all_goals go_returns
  all_goals exact ⟨rfl, (by repeat' (first | exact Plus.refl _ | refine Plus.alloc ?_ _ | refine Plus.plus ?_ _ | refine Plus.drew ?_ | refine Plus.drewN ?_ _))⟩
set_option maxRecDepth 100000 in
set_option maxHeartbeats 4000000 in
theorem may_6n {p q : Int} {g : Bool} {A C : Option Addr} {n c m d : Nat} {r : Int} (w : World) (hm : ¬ 0 ≤ r) : Calls Tryz.prog 41 #[Value.agg #[.int .i64 6, .int .i64 p, .int .i64 q, .bool g, .slice A n c, .slice C m d, .int .i64 r]] w fun e w' => e = .returned (.bool false) ∧ Plus w w' := by
  go_enter Tryz.func41, Tryz.ntmps41
  go_wp2_with fail
  go_region
  all_goals go_wp2_with fail
  all_goals go_returns
  all_goals exact ⟨rfl, (by repeat' (first | exact Plus.refl _ | refine Plus.alloc ?_ _ | refine Plus.plus ?_ _ | refine Plus.drew ?_ | refine Plus.drewN ?_ _))⟩
set_option maxRecDepth 100000 in
set_option maxHeartbeats 4000000 in
theorem may_o {k p q : Int} {g : Bool} {A C : Option Addr} {n c m d : Nat} {r : Int} (w : World) (b0 : (k == 0) = false) (b1 : (k == 1) = false) (b2 : (k == 2) = false) (b3 : (k == 3) = false) (b4 : (k == 4) = false) (b5 : (k == 5) = false) (b6 : (k == 6) = false) :
    Calls Tryz.prog 41 #[Value.agg #[.int .i64 k, .int .i64 p, .int .i64 q, .bool g, .slice A n c, .slice C m d, .int .i64 r]] w fun e w' => e = .returned (.bool false) ∧ Plus w w' := by
  go_enter Tryz.func41, Tryz.ntmps41
  go_wp2_with fail
  go_returns
  exact ⟨rfl, (by repeat' (first | exact Plus.refl _ | refine Plus.alloc ?_ _ | refine Plus.plus ?_ _ | refine Plus.drew ?_ | refine Plus.drewN ?_ _))⟩
end Go.Proofs.YtmlfcmmgoiigkaaGreatDoor
