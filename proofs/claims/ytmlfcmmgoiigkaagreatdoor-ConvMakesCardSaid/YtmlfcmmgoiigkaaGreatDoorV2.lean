/- Contract: heap.Same. -/
import Derived.Test.YtmlfcmmgoiigkaaGreatDoorV1
namespace Go.Proofs.YtmlfcmmgoiigkaaGreatDoor
open Go.RowKit

theorem xor_of {a b : Bool} (h : a ≠ b) : b = !a := by cases a <;> cases b <;> simp_all
set_option maxRecDepth 100000 in
set_option maxHeartbeats 4000000 in
theorem hs_k {k p q : Int} {g : Bool} {A C : Option Addr} {n c m d : Nat} {r : Int} {k2 p2 q2 : Int} {g2 : Bool} {A2 C2 : Option Addr} {n2 c2 m2 d2 : Nat} {r2 : Int} (w : World) (b : (k == k2) = false) : Calls Tryz.prog 42 #[Value.agg #[.int .i64 k, .int .i64 p, .int .i64 q, .bool g, .slice A n c, .slice C m d, .int .i64 r], Value.agg #[.int .i64 k2, .int .i64 p2, .int .i64 q2, .bool g2, .slice A2 n2 c2, .slice C2 m2 d2, .int .i64 r2]] w fun e w' => e = .returned (.bool false) ∧ Plus w w' := by
  go_enter Tryz.func42, Tryz.ntmps42
  go_wp2_with fail
  go_returns
  exact ⟨rfl, (by repeat' (first | exact Plus.refl _ | refine Plus.alloc ?_ _ | refine Plus.plus ?_ _ | refine Plus.drew ?_ | refine Plus.drewN ?_ _))⟩
set_option maxRecDepth 100000 in
set_option maxHeartbeats 4000000 in
theorem hs_p {k p q : Int} {g : Bool} {A C : Option Addr} {n c m d : Nat} {r : Int} {p2 q2 : Int} {g2 : Bool} {A2 C2 : Option Addr} {n2 c2 m2 d2 : Nat} {r2 : Int} (w : World) (b : (p == p2) = false) : Calls Tryz.prog 42 #[Value.agg #[.int .i64 k, .int .i64 p, .int .i64 q, .bool g, .slice A n c, .slice C m d, .int .i64 r], Value.agg #[.int .i64 k, .int .i64 p2, .int .i64 q2, .bool g2, .slice A2 n2 c2, .slice C2 m2 d2, .int .i64 r2]] w fun e w' => e = .returned (.bool false) ∧ Plus w w' := by
  go_enter Tryz.func42, Tryz.ntmps42
  go_wp2_with fail
  go_returns
  exact ⟨rfl, (by repeat' (first | exact Plus.refl _ | refine Plus.alloc ?_ _ | refine Plus.plus ?_ _ | refine Plus.drew ?_ | refine Plus.drewN ?_ _))⟩
set_option maxRecDepth 100000 in
set_option maxHeartbeats 4000000 in
theorem hs_q {k p q : Int} {g : Bool} {A C : Option Addr} {n c m d : Nat} {r : Int} {q2 : Int} {g2 : Bool} {A2 C2 : Option Addr} {n2 c2 m2 d2 : Nat} {r2 : Int} (w : World) (b : (q == q2) = false) : Calls Tryz.prog 42 #[Value.agg #[.int .i64 k, .int .i64 p, .int .i64 q, .bool g, .slice A n c, .slice C m d, .int .i64 r], Value.agg #[.int .i64 k, .int .i64 p, .int .i64 q2, .bool g2, .slice A2 n2 c2, .slice C2 m2 d2, .int .i64 r2]] w fun e w' => e = .returned (.bool false) ∧ Plus w w' := by
  go_enter Tryz.func42, Tryz.ntmps42
  go_wp2_with fail
  go_returns
  exact ⟨rfl, (by repeat' (first | exact Plus.refl _ | refine Plus.alloc ?_ _ | refine Plus.plus ?_ _ | refine Plus.drew ?_ | refine Plus.drewN ?_ _))⟩
set_option maxRecDepth 100000 in
set_option maxHeartbeats 4000000 in
theorem hs_g {k p q : Int} {g : Bool} {A C : Option Addr} {n c m d : Nat} {r : Int} {A2 C2 : Option Addr} {n2 c2 m2 d2 : Nat} {r2 : Int} (w : World) : Calls Tryz.prog 42 #[Value.agg #[.int .i64 k, .int .i64 p, .int .i64 q, .bool g, .slice A n c, .slice C m d, .int .i64 r], Value.agg #[.int .i64 k, .int .i64 p, .int .i64 q, .bool (!g), .slice A2 n2 c2, .slice C2 m2 d2, .int .i64 r2]] w fun e w' => e = .returned (.bool false) ∧ Plus w w' := by
  cases g
  · go_enter Tryz.func42, Tryz.ntmps42
    go_wp2_with fail
    go_returns
    exact ⟨rfl, (by repeat' (first | exact Plus.refl _ | refine Plus.alloc ?_ _ | refine Plus.plus ?_ _ | refine Plus.drew ?_ | refine Plus.drewN ?_ _))⟩
  · go_enter Tryz.func42, Tryz.ntmps42
    go_wp2_with fail
    go_returns
    exact ⟨rfl, (by repeat' (first | exact Plus.refl _ | refine Plus.alloc ?_ _ | refine Plus.plus ?_ _ | refine Plus.drew ?_ | refine Plus.drewN ?_ _))⟩
set_option maxRecDepth 100000 in
set_option maxHeartbeats 4000000 in
theorem hs_x {k p q : Int} {g : Bool} {A C : Option Addr} {xs us : List Nat} {n c m d : Nat} {r : Int} {A2 C2 : Option Addr} {xs2 us2 : List Nat} {n2 c2 m2 d2 : Nat} {r2 : Int} (w : World) (H1 : Hid (VM w A xs n c C us m d)) (H2 : Hid (VM w A2 xs2 n2 c2 C2 us2 m2 d2)) (hx : Hid (decide (xs = xs2) = false)) : Calls Tryz.prog 42 #[Value.agg #[.int .i64 k, .int .i64 p, .int .i64 q, .bool g, .slice A n c, .slice C m d, .int .i64 r], Value.agg #[.int .i64 k, .int .i64 p, .int .i64 q, .bool g, .slice A2 n2 c2, .slice C2 m2 d2, .int .i64 r2]] w fun e w' => e = .returned (.bool false) ∧ Plus w w' := by
  cases g
  · go_enter Tryz.func42, Tryz.ntmps42
    go_wp2_with (go_at_call 82; (with_reducible refine (equal32_v hx _ (H1.out.b.plus (by repeat' (first | exact Plus.refl _ | refine Plus.alloc ?_ _ | refine Plus.plus ?_ _ | refine Plus.drew ?_ | refine Plus.drewN ?_ _))) (H2.out.b.plus (by repeat' (first | exact Plus.refl _ | refine Plus.alloc ?_ _ | refine Plus.plus ?_ _ | refine Plus.drew ?_ | refine Plus.drewN ?_ _)))).mono ?_); rintro e w1 ⟨rfl, ⟨x1, rfl⟩⟩)
    go_returns
    exact ⟨rfl, (by repeat' (first | exact Plus.refl _ | refine Plus.alloc ?_ _ | refine Plus.plus ?_ _ | refine Plus.drew ?_ | refine Plus.drewN ?_ _))⟩
  · go_enter Tryz.func42, Tryz.ntmps42
    go_wp2_with (go_at_call 82; (with_reducible refine (equal32_v hx _ (H1.out.b.plus (by repeat' (first | exact Plus.refl _ | refine Plus.alloc ?_ _ | refine Plus.plus ?_ _ | refine Plus.drew ?_ | refine Plus.drewN ?_ _))) (H2.out.b.plus (by repeat' (first | exact Plus.refl _ | refine Plus.alloc ?_ _ | refine Plus.plus ?_ _ | refine Plus.drew ?_ | refine Plus.drewN ?_ _)))).mono ?_); rintro e w1 ⟨rfl, ⟨x1, rfl⟩⟩)
    go_returns
    exact ⟨rfl, (by repeat' (first | exact Plus.refl _ | refine Plus.alloc ?_ _ | refine Plus.plus ?_ _ | refine Plus.drew ?_ | refine Plus.drewN ?_ _))⟩
set_option maxRecDepth 100000 in
set_option maxHeartbeats 4000000 in
theorem hs_u {k p q : Int} {g : Bool} {A C : Option Addr} {xs us : List Nat} {n c m d : Nat} {r : Int} {A2 C2 : Option Addr} {xs2 us2 : List Nat} {n2 c2 m2 d2 : Nat} {r2 : Int} (w : World) (H1 : Hid (VM w A xs n c C us m d)) (H2 : Hid (VM w A2 xs2 n2 c2 C2 us2 m2 d2)) (hx : Hid (decide (xs = xs2) = true)) (hu : Hid (decide (us = us2) = false)) : Calls Tryz.prog 42 #[Value.agg #[.int .i64 k, .int .i64 p, .int .i64 q, .bool g, .slice A n c, .slice C m d, .int .i64 r], Value.agg #[.int .i64 k, .int .i64 p, .int .i64 q, .bool g, .slice A2 n2 c2, .slice C2 m2 d2, .int .i64 r2]] w fun e w' => e = .returned (.bool false) ∧ Plus w w' := by
  cases g
  · go_enter Tryz.func42, Tryz.ntmps42
    go_wp2_with (first | (go_at_call 82; (with_reducible refine (equal32_v hx _ (H1.out.b.plus (by repeat' (first | exact Plus.refl _ | refine Plus.alloc ?_ _ | refine Plus.plus ?_ _ | refine Plus.drew ?_ | refine Plus.drewN ?_ _))) (H2.out.b.plus (by repeat' (first | exact Plus.refl _ | refine Plus.alloc ?_ _ | refine Plus.plus ?_ _ | refine Plus.drew ?_ | refine Plus.drewN ?_ _)))).mono ?_); rintro e w1 ⟨rfl, ⟨x1, rfl⟩⟩) | (go_at_call 83; (with_reducible refine (tsame_v hu _ (H1.out.s.plus (by repeat' (first | exact Plus.refl _ | refine Plus.alloc ?_ _ | refine Plus.plus ?_ _ | refine Plus.drew ?_ | refine Plus.drewN ?_ _))) (H2.out.s.plus (by repeat' (first | exact Plus.refl _ | refine Plus.alloc ?_ _ | refine Plus.plus ?_ _ | refine Plus.drew ?_ | refine Plus.drewN ?_ _)))).mono ?_); rintro e w1 ⟨rfl, ⟨x2, rfl⟩⟩))
    go_returns
    exact ⟨rfl, (by repeat' (first | exact Plus.refl _ | refine Plus.alloc ?_ _ | refine Plus.plus ?_ _ | refine Plus.drew ?_ | refine Plus.drewN ?_ _))⟩
  · go_enter Tryz.func42, Tryz.ntmps42
    go_wp2_with (first | (go_at_call 82; (with_reducible refine (equal32_v hx _ (H1.out.b.plus (by repeat' (first | exact Plus.refl _ | refine Plus.alloc ?_ _ | refine Plus.plus ?_ _ | refine Plus.drew ?_ | refine Plus.drewN ?_ _))) (H2.out.b.plus (by repeat' (first | exact Plus.refl _ | refine Plus.alloc ?_ _ | refine Plus.plus ?_ _ | refine Plus.drew ?_ | refine Plus.drewN ?_ _)))).mono ?_); rintro e w1 ⟨rfl, ⟨x1, rfl⟩⟩) | (go_at_call 83; (with_reducible refine (tsame_v hu _ (H1.out.s.plus (by repeat' (first | exact Plus.refl _ | refine Plus.alloc ?_ _ | refine Plus.plus ?_ _ | refine Plus.drew ?_ | refine Plus.drewN ?_ _))) (H2.out.s.plus (by repeat' (first | exact Plus.refl _ | refine Plus.alloc ?_ _ | refine Plus.plus ?_ _ | refine Plus.drew ?_ | refine Plus.drewN ?_ _)))).mono ?_); rintro e w1 ⟨rfl, ⟨x2, rfl⟩⟩))
    go_returns
    exact ⟨rfl, (by repeat' (first | exact Plus.refl _ | refine Plus.alloc ?_ _ | refine Plus.plus ?_ _ | refine Plus.drew ?_ | refine Plus.drewN ?_ _))⟩
set_option maxRecDepth 100000 in
set_option maxHeartbeats 4000000 in
theorem hs_r {k p q : Int} {g : Bool} {A C : Option Addr} {xs us : List Nat} {n c m d : Nat} {r : Int} {A2 C2 : Option Addr} {xs2 us2 : List Nat} {n2 c2 m2 d2 : Nat} {r2 : Int} (w : World) (H1 : Hid (VM w A xs n c C us m d)) (H2 : Hid (VM w A2 xs2 n2 c2 C2 us2 m2 d2)) (hx : Hid (decide (xs = xs2) = true)) (hu : Hid (decide (us = us2) = true)) (b : (r == r2) = false) : Calls Tryz.prog 42 #[Value.agg #[.int .i64 k, .int .i64 p, .int .i64 q, .bool g, .slice A n c, .slice C m d, .int .i64 r], Value.agg #[.int .i64 k, .int .i64 p, .int .i64 q, .bool g, .slice A2 n2 c2, .slice C2 m2 d2, .int .i64 r2]] w fun e w' => e = .returned (.bool false) ∧ Plus w w' := by
  cases g
  · go_enter Tryz.func42, Tryz.ntmps42
    go_wp2_with (first | (go_at_call 82; (with_reducible refine (equal32_v hx _ (H1.out.b.plus (by repeat' (first | exact Plus.refl _ | refine Plus.alloc ?_ _ | refine Plus.plus ?_ _ | refine Plus.drew ?_ | refine Plus.drewN ?_ _))) (H2.out.b.plus (by repeat' (first | exact Plus.refl _ | refine Plus.alloc ?_ _ | refine Plus.plus ?_ _ | refine Plus.drew ?_ | refine Plus.drewN ?_ _)))).mono ?_); rintro e w1 ⟨rfl, ⟨x1, rfl⟩⟩) | (go_at_call 83; (with_reducible refine (tsame_v hu _ (H1.out.s.plus (by repeat' (first | exact Plus.refl _ | refine Plus.alloc ?_ _ | refine Plus.plus ?_ _ | refine Plus.drew ?_ | refine Plus.drewN ?_ _))) (H2.out.s.plus (by repeat' (first | exact Plus.refl _ | refine Plus.alloc ?_ _ | refine Plus.plus ?_ _ | refine Plus.drew ?_ | refine Plus.drewN ?_ _)))).mono ?_); rintro e w1 ⟨rfl, ⟨x2, rfl⟩⟩))
    go_returns
    exact ⟨rfl, (by repeat' (first | exact Plus.refl _ | refine Plus.alloc ?_ _ | refine Plus.plus ?_ _ | refine Plus.drew ?_ | refine Plus.drewN ?_ _))⟩
  · go_enter Tryz.func42, Tryz.ntmps42
    go_wp2_with (first | (go_at_call 82; (with_reducible refine (equal32_v hx _ (H1.out.b.plus (by repeat' (first | exact Plus.refl _ | refine Plus.alloc ?_ _ | refine Plus.plus ?_ _ | refine Plus.drew ?_ | refine Plus.drewN ?_ _))) (H2.out.b.plus (by repeat' (first | exact Plus.refl _ | refine Plus.alloc ?_ _ | refine Plus.plus ?_ _ | refine Plus.drew ?_ | refine Plus.drewN ?_ _)))).mono ?_); rintro e w1 ⟨rfl, ⟨x1, rfl⟩⟩) | (go_at_call 83; (with_reducible refine (tsame_v hu _ (H1.out.s.plus (by repeat' (first | exact Plus.refl _ | refine Plus.alloc ?_ _ | refine Plus.plus ?_ _ | refine Plus.drew ?_ | refine Plus.drewN ?_ _))) (H2.out.s.plus (by repeat' (first | exact Plus.refl _ | refine Plus.alloc ?_ _ | refine Plus.plus ?_ _ | refine Plus.drew ?_ | refine Plus.drewN ?_ _)))).mono ?_); rintro e w1 ⟨rfl, ⟨x2, rfl⟩⟩))
    go_returns
    exact ⟨rfl, (by repeat' (first | exact Plus.refl _ | refine Plus.alloc ?_ _ | refine Plus.plus ?_ _ | refine Plus.drew ?_ | refine Plus.drewN ?_ _))⟩
set_option maxRecDepth 100000 in
set_option maxHeartbeats 4000000 in
theorem hs_e {k p q : Int} {g : Bool} {A C : Option Addr} {xs us : List Nat} {n c m d : Nat} {r : Int} {A2 C2 : Option Addr} {xs2 us2 : List Nat} {n2 c2 m2 d2 : Nat} (w : World) (H1 : Hid (VM w A xs n c C us m d)) (H2 : Hid (VM w A2 xs2 n2 c2 C2 us2 m2 d2)) (hx : Hid (decide (xs = xs2) = true)) (hu : Hid (decide (us = us2) = true)) : Calls Tryz.prog 42 #[Value.agg #[.int .i64 k, .int .i64 p, .int .i64 q, .bool g, .slice A n c, .slice C m d, .int .i64 r], Value.agg #[.int .i64 k, .int .i64 p, .int .i64 q, .bool g, .slice A2 n2 c2, .slice C2 m2 d2, .int .i64 r]] w fun e w' => e = .returned (.bool true) ∧ Plus w w' := by
  cases g
  · go_enter Tryz.func42, Tryz.ntmps42
    go_wp2_with (first | (go_at_call 82; (with_reducible refine (equal32_v hx _ (H1.out.b.plus (by repeat' (first | exact Plus.refl _ | refine Plus.alloc ?_ _ | refine Plus.plus ?_ _ | refine Plus.drew ?_ | refine Plus.drewN ?_ _))) (H2.out.b.plus (by repeat' (first | exact Plus.refl _ | refine Plus.alloc ?_ _ | refine Plus.plus ?_ _ | refine Plus.drew ?_ | refine Plus.drewN ?_ _)))).mono ?_); rintro e w1 ⟨rfl, ⟨x1, rfl⟩⟩) | (go_at_call 83; (with_reducible refine (tsame_v hu _ (H1.out.s.plus (by repeat' (first | exact Plus.refl _ | refine Plus.alloc ?_ _ | refine Plus.plus ?_ _ | refine Plus.drew ?_ | refine Plus.drewN ?_ _))) (H2.out.s.plus (by repeat' (first | exact Plus.refl _ | refine Plus.alloc ?_ _ | refine Plus.plus ?_ _ | refine Plus.drew ?_ | refine Plus.drewN ?_ _)))).mono ?_); rintro e w1 ⟨rfl, ⟨x2, rfl⟩⟩))
    go_returns
    exact ⟨rfl, (by repeat' (first | exact Plus.refl _ | refine Plus.alloc ?_ _ | refine Plus.plus ?_ _ | refine Plus.drew ?_ | refine Plus.drewN ?_ _))⟩
  · go_enter Tryz.func42, Tryz.ntmps42
    go_wp2_with (first | (go_at_call 82; (with_reducible refine (equal32_v hx _ (H1.out.b.plus (by repeat' (first | exact Plus.refl _ | refine Plus.alloc ?_ _ | refine Plus.plus ?_ _ | refine Plus.drew ?_ | refine Plus.drewN ?_ _))) (H2.out.b.plus (by repeat' (first | exact Plus.refl _ | refine Plus.alloc ?_ _ | refine Plus.plus ?_ _ | refine Plus.drew ?_ | refine Plus.drewN ?_ _)))).mono ?_); rintro e w1 ⟨rfl, ⟨x1, rfl⟩⟩) | (go_at_call 83; (with_reducible refine (tsame_v hu _ (H1.out.s.plus (by repeat' (first | exact Plus.refl _ | refine Plus.alloc ?_ _ | refine Plus.plus ?_ _ | refine Plus.drew ?_ | refine Plus.drewN ?_ _))) (H2.out.s.plus (by repeat' (first | exact Plus.refl _ | refine Plus.alloc ?_ _ | refine Plus.plus ?_ _ | refine Plus.drew ?_ | refine Plus.drewN ?_ _)))).mono ?_); rintro e w1 ⟨rfl, ⟨x2, rfl⟩⟩))
    go_returns
    exact ⟨rfl, (by repeat' (first | exact Plus.refl _ | refine Plus.alloc ?_ _ | refine Plus.plus ?_ _ | refine Plus.drew ?_ | refine Plus.drewN ?_ _))⟩
def sameV (k p q : Int) (g : Bool) (xs us : List Nat) (r : Int) (k2 p2 q2 : Int) (g2 : Bool) (xs2 us2 : List Nat) (r2 : Int) : Bool := decide (k = k2 ∧ p = p2 ∧ q = q2 ∧ g = g2 ∧ xs = xs2 ∧ us = us2 ∧ r = r2)
theorem hsame_c (k p q : Int) (g : Bool) (A C : Option Addr) (xs us : List Nat) (n c m d : Nat) (r : Int) (k2 p2 q2 : Int) (g2 : Bool) (A2 C2 : Option Addr) (xs2 us2 : List Nat) (n2 c2 m2 d2 : Nat) (r2 : Int) (w : World) (h1 : VM w A xs n c C us m d) (h2 : VM w A2 xs2 n2 c2 C2 us2 m2 d2) : Calls Tryz.prog 42 #[Value.agg #[.int .i64 k, .int .i64 p, .int .i64 q, .bool g, .slice A n c, .slice C m d, .int .i64 r], Value.agg #[.int .i64 k2, .int .i64 p2, .int .i64 q2, .bool g2, .slice A2 n2 c2, .slice C2 m2 d2, .int .i64 r2]] w fun e w' => e = .returned (.bool (sameV k p q g xs us r k2 p2 q2 g2 xs2 us2 r2)) ∧ Plus w w' := by
  by_cases e1 : k = k2
  · subst e1
    by_cases e2 : p = p2
    · subst e2
      by_cases e3 : q = q2
      · subst e3
        by_cases e4 : g = g2
        · subst e4
          by_cases e5 : xs = xs2
          · by_cases e6 : us = us2
            · by_cases e7 : r = r2
              · subst e7
                rw [show sameV k p q g xs us r k p q g xs2 us2 r = true by simp [sameV, e5, e6]]
                exact hs_e w (Lib.hid h1) (Lib.hid h2) (Lib.hid (by simp [e5])) (Lib.hid (by simp [e6]))
              · rw [show sameV k p q g xs us r k p q g xs2 us2 r2 = false by simp [sameV, e7]]
                exact hs_r w (Lib.hid h1) (Lib.hid h2) (Lib.hid (by simp [e5])) (Lib.hid (by simp [e6])) (beq_f e7)
            · rw [show sameV k p q g xs us r k p q g xs2 us2 r2 = false by simp [sameV, e6]]
              exact hs_u w (Lib.hid h1) (Lib.hid h2) (Lib.hid (by simp [e5])) (Lib.hid (by simp [e6]))
          · rw [show sameV k p q g xs us r k p q g xs2 us2 r2 = false by simp [sameV, e5]]
            exact hs_x w (Lib.hid h1) (Lib.hid h2) (Lib.hid (by simp [e5]))
        · rw [show sameV k p q g xs us r k p q g2 xs2 us2 r2 = false by simp [sameV, e4], xor_of e4]
          exact hs_g w
      · rw [show sameV k p q g xs us r k p q2 g2 xs2 us2 r2 = false by simp [sameV, e3]]
        exact hs_q w (beq_f e3)
    · rw [show sameV k p q g xs us r k p2 q2 g2 xs2 us2 r2 = false by simp [sameV, e2]]
      exact hs_p w (beq_f e2)
  · rw [show sameV k p q g xs us r k2 p2 q2 g2 xs2 us2 r2 = false by simp [sameV, e1]]
    exact hs_k w (beq_f e1)
end Go.Proofs.YtmlfcmmgoiigkaaGreatDoor
