/- The document's values held against one another: Num, Big, Units, renref9.Same. -/
import Derived.Test.YtakahpbondaidaaGreatDoorPZN
import Derived.Test.YtakahpbondaidaaGreatDoorPZK
import Derived.Test.YtakahpbondaidaaGreatDoorPZO
namespace Go.Proofs.YtakahpbondaidaaGreatDoor
open Go.RowKit

theorem rnum9_v {p q p2 q2 : Int} {b : Bool} (h : Hid (decide (p = p2 ∧ q = q2) = b)) (w : World) : Calls Tryz.prog 16 #[.agg #[.int .i64 p, .int .i64 q], .agg #[.int .i64 p2, .int .i64 q2]] w fun e w' => e = .returned (.bool b) ∧ Plus w w' := by
  rw [← h.out]
  exact refNum_c p q p2 q2 w
theorem runits9_v {A C : Option Addr} {xs ys : List Nat} {n c m d : Nat} {b : Bool} (h : Hid (decide (xs = ys) = b)) (w : World) (ha : Ar .u16 65536 w A xs n c) (hb : Ar .u16 65536 w C ys m d) :
    Calls Tryz.prog 23 #[.slice A n c, .slice C m d] w fun e w' => e = .returned (.bool b) ∧ Plus w w' := by
  rw [← h.out]
  exact refUnits_c A C xs ys n c m d w ha hb
theorem rlimbs9_v {A C : Option Addr} {xs ys : List Nat} {n c m d : Nat} {b : Bool} (h : Hid (decide (xs = ys) = b)) (w : World) (ha : Ar .u32 4294967296 w A xs n c) (hb : Ar .u32 4294967296 w C ys m d) :
    Calls Tryz.prog 56 #[.slice A n c, .slice C m d] w fun e w' => e = .returned (.bool b) ∧ Plus w w' := by
  rw [← h.out]
  exact refLimbs_c A C xs ys n c m d w ha hb
set_option maxRecDepth 100000 in
set_option maxHeartbeats 4000000 in
theorem rbig9_g {g : Bool} {A C : Option Addr} {n c m d : Nat} (w : World) :
    Calls Tryz.prog 18 #[.agg #[.bool g, .slice A n c], .agg #[.bool (!g), .slice C m d]] w fun e w' => e = .returned (.bool false) ∧ Plus w w' := by
  cases g
  · go_enter Tryz.func18, Tryz.ntmps18
    go_wp2_with fail
    go_returns
    exact ⟨rfl, (by repeat' (first | exact Plus.refl _ | refine Plus.alloc ?_ _ | refine Plus.plus ?_ _ | refine Plus.drew ?_ | refine Plus.drewN ?_ _))⟩
  · go_enter Tryz.func18, Tryz.ntmps18
    go_wp2_with fail
    go_returns
    exact ⟨rfl, (by repeat' (first | exact Plus.refl _ | refine Plus.alloc ?_ _ | refine Plus.plus ?_ _ | refine Plus.drew ?_ | refine Plus.drewN ?_ _))⟩
set_option maxRecDepth 100000 in
set_option maxHeartbeats 4000000 in
theorem rbig9_x {g : Bool} {A C : Option Addr} {xs ys : List Nat} {n c m d : Nat} {b : Bool} (h : Hid (decide (xs = ys) = b)) (w : World) (ha : Hid (Ar .u32 4294967296 w A xs n c)) (hb : Hid (Ar .u32 4294967296 w C ys m d)) :
    Calls Tryz.prog 18 #[.agg #[.bool g, .slice A n c], .agg #[.bool g, .slice C m d]] w fun e w' => e = .returned (.bool b) ∧ Plus w w' := by
  cases g
  · go_enter Tryz.func18, Tryz.ntmps18
    go_wp2_with (go_at_call 56; (with_reducible refine (rlimbs9_v h _ (ha.out.plus (by repeat' (first | exact Plus.refl _ | refine Plus.alloc ?_ _ | refine Plus.plus ?_ _ | refine Plus.drew ?_ | refine Plus.drewN ?_ _))) (hb.out.plus (by repeat' (first | exact Plus.refl _ | refine Plus.alloc ?_ _ | refine Plus.plus ?_ _ | refine Plus.drew ?_ | refine Plus.drewN ?_ _)))).mono ?_); rintro e w1 ⟨rfl, ⟨x1, rfl⟩⟩)
    go_returns
    exact ⟨rfl, (by repeat' (first | exact Plus.refl _ | refine Plus.alloc ?_ _ | refine Plus.plus ?_ _ | refine Plus.drew ?_ | refine Plus.drewN ?_ _))⟩
  · go_enter Tryz.func18, Tryz.ntmps18
    go_wp2_with (go_at_call 56; (with_reducible refine (rlimbs9_v h _ (ha.out.plus (by repeat' (first | exact Plus.refl _ | refine Plus.alloc ?_ _ | refine Plus.plus ?_ _ | refine Plus.drew ?_ | refine Plus.drewN ?_ _))) (hb.out.plus (by repeat' (first | exact Plus.refl _ | refine Plus.alloc ?_ _ | refine Plus.plus ?_ _ | refine Plus.drew ?_ | refine Plus.drewN ?_ _)))).mono ?_); rintro e w1 ⟨rfl, ⟨x1, rfl⟩⟩)
    go_returns
    exact ⟨rfl, (by repeat' (first | exact Plus.refl _ | refine Plus.alloc ?_ _ | refine Plus.plus ?_ _ | refine Plus.drew ?_ | refine Plus.drewN ?_ _))⟩
theorem rbig9_v {g g2 : Bool} {A C : Option Addr} {xs ys : List Nat} {n c m d : Nat} {b : Bool} (h : Hid (decide (g = g2 ∧ xs = ys) = b)) (w : World) (ha : Ar .u32 4294967296 w A xs n c) (hb : Ar .u32 4294967296 w C ys m d) :
    Calls Tryz.prog 18 #[.agg #[.bool g, .slice A n c], .agg #[.bool g2, .slice C m d]] w fun e w' => e = .returned (.bool b) ∧ Plus w w' := by
  have q := h.out
  by_cases hg : g = g2
  · subst hg
    exact rbig9_x (Lib.hid (by simpa using q)) w (Lib.hid ha) (Lib.hid hb)
  · obtain rfl : b = false := by rw [← q]; simp [hg]
    rw [xor_of hg]
    exact rbig9_g w
set_option maxRecDepth 100000 in
set_option maxHeartbeats 4000000 in
theorem s9_k {k p q : Int} {g : Bool} {A C : Option Addr} {n c m d : Nat} {r : Int} {k2 p2 q2 : Int} {g2 : Bool} {A2 C2 : Option Addr} {n2 c2 m2 d2 : Nat} {r2 : Int} (w : World) (b : (k == k2) = false) : Calls Tryz.prog 26 #[Value.agg #[.int .i64 k, .int .i64 p, .int .i64 q, .bool g, .slice A n c, .slice C m d, .int .i64 r], Value.agg #[.int .i64 k2, .int .i64 p2, .int .i64 q2, .bool g2, .slice A2 n2 c2, .slice C2 m2 d2, .int .i64 r2]] w fun e w' => e = .returned (.bool false) ∧ Plus w w' := by
  go_enter Tryz.func26, Tryz.ntmps26
  go_wp2_with fail
  go_returns
  exact ⟨rfl, (by repeat' (first | exact Plus.refl _ | refine Plus.alloc ?_ _ | refine Plus.plus ?_ _ | refine Plus.drew ?_ | refine Plus.drewN ?_ _))⟩
set_option maxRecDepth 100000 in
set_option maxHeartbeats 4000000 in
theorem s9_n {k p q : Int} {g : Bool} {A C : Option Addr} {n c m d : Nat} {r : Int} {p2 q2 : Int} {g2 : Bool} {A2 C2 : Option Addr} {n2 c2 m2 d2 : Nat} {r2 : Int} (w : World) (hN : Hid (decide (p = p2 ∧ q = q2) = false)) : Calls Tryz.prog 26 #[Value.agg #[.int .i64 k, .int .i64 p, .int .i64 q, .bool g, .slice A n c, .slice C m d, .int .i64 r], Value.agg #[.int .i64 k, .int .i64 p2, .int .i64 q2, .bool g2, .slice A2 n2 c2, .slice C2 m2 d2, .int .i64 r2]] w fun e w' => e = .returned (.bool false) ∧ Plus w w' := by
  go_enter Tryz.func26, Tryz.ntmps26
  go_wp2_with (first | (go_at_call 16; (with_reducible refine (rnum9_v hN _).mono ?_); rintro e w1 ⟨rfl, ⟨x1, rfl⟩⟩))
  go_returns
  exact ⟨rfl, (by repeat' (first | exact Plus.refl _ | refine Plus.alloc ?_ _ | refine Plus.plus ?_ _ | refine Plus.drew ?_ | refine Plus.drewN ?_ _))⟩
set_option maxRecDepth 100000 in
set_option maxHeartbeats 4000000 in
theorem s9_b {k p q : Int} {g : Bool} {A C : Option Addr} {xs us : List Nat} {n c m d : Nat} {r : Int} {p2 q2 : Int} {g2 : Bool} {A2 C2 : Option Addr} {xs2 us2 : List Nat} {n2 c2 m2 d2 : Nat} {r2 : Int} (w : World) (H1 : Hid (VM w A xs n c C us m d)) (H2 : Hid (VM w A2 xs2 n2 c2 C2 us2 m2 d2)) (hN : Hid (decide (p = p2 ∧ q = q2) = true)) (hB : Hid (decide (g = g2 ∧ xs = xs2) = false)) : Calls Tryz.prog 26 #[Value.agg #[.int .i64 k, .int .i64 p, .int .i64 q, .bool g, .slice A n c, .slice C m d, .int .i64 r], Value.agg #[.int .i64 k, .int .i64 p2, .int .i64 q2, .bool g2, .slice A2 n2 c2, .slice C2 m2 d2, .int .i64 r2]] w fun e w' => e = .returned (.bool false) ∧ Plus w w' := by
  go_enter Tryz.func26, Tryz.ntmps26
  go_wp2_with (first | (go_at_call 16; (with_reducible refine (rnum9_v hN _).mono ?_); rintro e w1 ⟨rfl, ⟨x1, rfl⟩⟩) | (go_at_call 18; (with_reducible refine (rbig9_v hB _ (H1.out.b.plus (by repeat' (first | exact Plus.refl _ | refine Plus.alloc ?_ _ | refine Plus.plus ?_ _ | refine Plus.drew ?_ | refine Plus.drewN ?_ _))) (H2.out.b.plus (by repeat' (first | exact Plus.refl _ | refine Plus.alloc ?_ _ | refine Plus.plus ?_ _ | refine Plus.drew ?_ | refine Plus.drewN ?_ _)))).mono ?_); rintro e w1 ⟨rfl, ⟨x2, rfl⟩⟩))
  go_returns
  exact ⟨rfl, (by repeat' (first | exact Plus.refl _ | refine Plus.alloc ?_ _ | refine Plus.plus ?_ _ | refine Plus.drew ?_ | refine Plus.drewN ?_ _))⟩
set_option maxRecDepth 100000 in
set_option maxHeartbeats 4000000 in
theorem s9_u {k p q : Int} {g : Bool} {A C : Option Addr} {xs us : List Nat} {n c m d : Nat} {r : Int} {p2 q2 : Int} {g2 : Bool} {A2 C2 : Option Addr} {xs2 us2 : List Nat} {n2 c2 m2 d2 : Nat} {r2 : Int} (w : World) (H1 : Hid (VM w A xs n c C us m d)) (H2 : Hid (VM w A2 xs2 n2 c2 C2 us2 m2 d2)) (hN : Hid (decide (p = p2 ∧ q = q2) = true)) (hB : Hid (decide (g = g2 ∧ xs = xs2) = true)) (hU : Hid (decide (us = us2) = false)) : Calls Tryz.prog 26 #[Value.agg #[.int .i64 k, .int .i64 p, .int .i64 q, .bool g, .slice A n c, .slice C m d, .int .i64 r], Value.agg #[.int .i64 k, .int .i64 p2, .int .i64 q2, .bool g2, .slice A2 n2 c2, .slice C2 m2 d2, .int .i64 r2]] w fun e w' => e = .returned (.bool false) ∧ Plus w w' := by
  go_enter Tryz.func26, Tryz.ntmps26
  go_wp2_with (first | (go_at_call 16; (with_reducible refine (rnum9_v hN _).mono ?_); rintro e w1 ⟨rfl, ⟨x1, rfl⟩⟩) | (go_at_call 18; (with_reducible refine (rbig9_v hB _ (H1.out.b.plus (by repeat' (first | exact Plus.refl _ | refine Plus.alloc ?_ _ | refine Plus.plus ?_ _ | refine Plus.drew ?_ | refine Plus.drewN ?_ _))) (H2.out.b.plus (by repeat' (first | exact Plus.refl _ | refine Plus.alloc ?_ _ | refine Plus.plus ?_ _ | refine Plus.drew ?_ | refine Plus.drewN ?_ _)))).mono ?_); rintro e w1 ⟨rfl, ⟨x2, rfl⟩⟩) | (go_at_call 23; (with_reducible refine (runits9_v hU _ (H1.out.s.plus (by repeat' (first | exact Plus.refl _ | refine Plus.alloc ?_ _ | refine Plus.plus ?_ _ | refine Plus.drew ?_ | refine Plus.drewN ?_ _))) (H2.out.s.plus (by repeat' (first | exact Plus.refl _ | refine Plus.alloc ?_ _ | refine Plus.plus ?_ _ | refine Plus.drew ?_ | refine Plus.drewN ?_ _)))).mono ?_); rintro e w1 ⟨rfl, ⟨x3, rfl⟩⟩))
  go_returns
  exact ⟨rfl, (by repeat' (first | exact Plus.refl _ | refine Plus.alloc ?_ _ | refine Plus.plus ?_ _ | refine Plus.drew ?_ | refine Plus.drewN ?_ _))⟩
set_option maxRecDepth 100000 in
set_option maxHeartbeats 4000000 in
theorem s9_r {k p q : Int} {g : Bool} {A C : Option Addr} {xs us : List Nat} {n c m d : Nat} {r : Int} {p2 q2 : Int} {g2 : Bool} {A2 C2 : Option Addr} {xs2 us2 : List Nat} {n2 c2 m2 d2 : Nat} {r2 : Int} (w : World) (H1 : Hid (VM w A xs n c C us m d)) (H2 : Hid (VM w A2 xs2 n2 c2 C2 us2 m2 d2)) (hN : Hid (decide (p = p2 ∧ q = q2) = true)) (hB : Hid (decide (g = g2 ∧ xs = xs2) = true)) (hU : Hid (decide (us = us2) = true)) (b : (r == r2) = false) : Calls Tryz.prog 26 #[Value.agg #[.int .i64 k, .int .i64 p, .int .i64 q, .bool g, .slice A n c, .slice C m d, .int .i64 r], Value.agg #[.int .i64 k, .int .i64 p2, .int .i64 q2, .bool g2, .slice A2 n2 c2, .slice C2 m2 d2, .int .i64 r2]] w fun e w' => e = .returned (.bool false) ∧ Plus w w' := by
  go_enter Tryz.func26, Tryz.ntmps26
  go_wp2_with (first | (go_at_call 16; (with_reducible refine (rnum9_v hN _).mono ?_); rintro e w1 ⟨rfl, ⟨x1, rfl⟩⟩) | (go_at_call 18; (with_reducible refine (rbig9_v hB _ (H1.out.b.plus (by repeat' (first | exact Plus.refl _ | refine Plus.alloc ?_ _ | refine Plus.plus ?_ _ | refine Plus.drew ?_ | refine Plus.drewN ?_ _))) (H2.out.b.plus (by repeat' (first | exact Plus.refl _ | refine Plus.alloc ?_ _ | refine Plus.plus ?_ _ | refine Plus.drew ?_ | refine Plus.drewN ?_ _)))).mono ?_); rintro e w1 ⟨rfl, ⟨x2, rfl⟩⟩) | (go_at_call 23; (with_reducible refine (runits9_v hU _ (H1.out.s.plus (by repeat' (first | exact Plus.refl _ | refine Plus.alloc ?_ _ | refine Plus.plus ?_ _ | refine Plus.drew ?_ | refine Plus.drewN ?_ _))) (H2.out.s.plus (by repeat' (first | exact Plus.refl _ | refine Plus.alloc ?_ _ | refine Plus.plus ?_ _ | refine Plus.drew ?_ | refine Plus.drewN ?_ _)))).mono ?_); rintro e w1 ⟨rfl, ⟨x3, rfl⟩⟩))
  go_returns
  exact ⟨rfl, (by repeat' (first | exact Plus.refl _ | refine Plus.alloc ?_ _ | refine Plus.plus ?_ _ | refine Plus.drew ?_ | refine Plus.drewN ?_ _))⟩
set_option maxRecDepth 100000 in
set_option maxHeartbeats 4000000 in
theorem s9_e {k p q : Int} {g : Bool} {A C : Option Addr} {xs us : List Nat} {n c m d : Nat} {r : Int} {p2 q2 : Int} {g2 : Bool} {A2 C2 : Option Addr} {xs2 us2 : List Nat} {n2 c2 m2 d2 : Nat} (w : World) (H1 : Hid (VM w A xs n c C us m d)) (H2 : Hid (VM w A2 xs2 n2 c2 C2 us2 m2 d2)) (hN : Hid (decide (p = p2 ∧ q = q2) = true)) (hB : Hid (decide (g = g2 ∧ xs = xs2) = true)) (hU : Hid (decide (us = us2) = true))  : Calls Tryz.prog 26 #[Value.agg #[.int .i64 k, .int .i64 p, .int .i64 q, .bool g, .slice A n c, .slice C m d, .int .i64 r], Value.agg #[.int .i64 k, .int .i64 p2, .int .i64 q2, .bool g2, .slice A2 n2 c2, .slice C2 m2 d2, .int .i64 r]] w fun e w' => e = .returned (.bool true) ∧ Plus w w' := by
  go_enter Tryz.func26, Tryz.ntmps26
  go_wp2_with (first | (go_at_call 16; (with_reducible refine (rnum9_v hN _).mono ?_); rintro e w1 ⟨rfl, ⟨x1, rfl⟩⟩) | (go_at_call 18; (with_reducible refine (rbig9_v hB _ (H1.out.b.plus (by repeat' (first | exact Plus.refl _ | refine Plus.alloc ?_ _ | refine Plus.plus ?_ _ | refine Plus.drew ?_ | refine Plus.drewN ?_ _))) (H2.out.b.plus (by repeat' (first | exact Plus.refl _ | refine Plus.alloc ?_ _ | refine Plus.plus ?_ _ | refine Plus.drew ?_ | refine Plus.drewN ?_ _)))).mono ?_); rintro e w1 ⟨rfl, ⟨x2, rfl⟩⟩) | (go_at_call 23; (with_reducible refine (runits9_v hU _ (H1.out.s.plus (by repeat' (first | exact Plus.refl _ | refine Plus.alloc ?_ _ | refine Plus.plus ?_ _ | refine Plus.drew ?_ | refine Plus.drewN ?_ _))) (H2.out.s.plus (by repeat' (first | exact Plus.refl _ | refine Plus.alloc ?_ _ | refine Plus.plus ?_ _ | refine Plus.drew ?_ | refine Plus.drewN ?_ _)))).mono ?_); rintro e w1 ⟨rfl, ⟨x3, rfl⟩⟩))
  go_returns
  exact ⟨rfl, (by repeat' (first | exact Plus.refl _ | refine Plus.alloc ?_ _ | refine Plus.plus ?_ _ | refine Plus.drew ?_ | refine Plus.drewN ?_ _))⟩
theorem same9_c (k p q : Int) (g : Bool) (A C : Option Addr) (xs us : List Nat) (n c m d : Nat) (r : Int) (k2 p2 q2 : Int) (g2 : Bool) (A2 C2 : Option Addr) (xs2 us2 : List Nat) (n2 c2 m2 d2 : Nat) (r2 : Int) (w : World) (h1 : VM w A xs n c C us m d) (h2 : VM w A2 xs2 n2 c2 C2 us2 m2 d2) : Calls Tryz.prog 26 #[Value.agg #[.int .i64 k, .int .i64 p, .int .i64 q, .bool g, .slice A n c, .slice C m d, .int .i64 r], Value.agg #[.int .i64 k2, .int .i64 p2, .int .i64 q2, .bool g2, .slice A2 n2 c2, .slice C2 m2 d2, .int .i64 r2]] w fun e w' => e = .returned (.bool (sameV k p q g xs us r k2 p2 q2 g2 xs2 us2 r2)) ∧ Plus w w' := by
  by_cases e1 : k = k2
  · subst e1
    by_cases e2 : p = p2 ∧ q = q2
    · by_cases e4 : g = g2 ∧ xs = xs2
      · by_cases e6 : us = us2
        · by_cases e7 : r = r2
          · subst e7
            rw [show sameV k p q g xs us r k p2 q2 g2 xs2 us2 r = true by simp [sameV, e2, e4, e6]]
            exact s9_e w (Lib.hid h1) (Lib.hid h2) (Lib.hid (by simp [e2])) (Lib.hid (by simp [e4])) (Lib.hid (by simp [e6]))
          · rw [show sameV k p q g xs us r k p2 q2 g2 xs2 us2 r2 = false by simp [sameV, e7]]
            exact s9_r w (Lib.hid h1) (Lib.hid h2) (Lib.hid (by simp [e2])) (Lib.hid (by simp [e4])) (Lib.hid (by simp [e6])) (beq_f e7)
        · rw [show sameV k p q g xs us r k p2 q2 g2 xs2 us2 r2 = false by simp [sameV, e6]]
          exact s9_u w (Lib.hid h1) (Lib.hid h2) (Lib.hid (by simp [e2])) (Lib.hid (by simp [e4])) (Lib.hid (by simp [e6]))
      · rw [show sameV k p q g xs us r k p2 q2 g2 xs2 us2 r2 = false by simp only [sameV, decide_eq_false_iff_not]; exact fun h => e4 ⟨h.2.2.2.1, h.2.2.2.2.1⟩]
        exact s9_b w (Lib.hid h1) (Lib.hid h2) (Lib.hid (by simp [e2])) (Lib.hid (by simpa using e4))
    · rw [show sameV k p q g xs us r k p2 q2 g2 xs2 us2 r2 = false by simp only [sameV, decide_eq_false_iff_not]; exact fun h => e2 ⟨h.2.1, h.2.2.1⟩]
      exact s9_n w (Lib.hid (by simpa using e2))
  · rw [show sameV k p q g xs us r k2 p2 q2 g2 xs2 us2 r2 = false by simp [sameV, e1]]
    exact s9_k w (beq_f e1)
theorem same9_v {k p q : Int} {g : Bool} {A C : Option Addr} {xs us : List Nat} {n c m d : Nat} {r : Int} {k2 p2 q2 : Int} {g2 : Bool} {A2 C2 : Option Addr} {xs2 us2 : List Nat} {n2 c2 m2 d2 : Nat} {r2 : Int} {z : Bool} (h : Hid (sameV k p q g xs us r k2 p2 q2 g2 xs2 us2 r2 = z)) (w : World) (h1 : VM w A xs n c C us m d) (h2 : VM w A2 xs2 n2 c2 C2 us2 m2 d2) :
    Calls Tryz.prog 26 #[Value.agg #[.int .i64 k, .int .i64 p, .int .i64 q, .bool g, .slice A n c, .slice C m d, .int .i64 r], Value.agg #[.int .i64 k2, .int .i64 p2, .int .i64 q2, .bool g2, .slice A2 n2 c2, .slice C2 m2 d2, .int .i64 r2]] w fun e w' => e = .returned (.bool z) ∧ Plus w w' := by
  rw [← h.out]
  exact same9_c _ _ _ _ _ _ _ _ _ _ _ _ _ _ _ _ _ _ _ _ _ _ _ _ _ _ w h1 h2
end Go.Proofs.YtakahpbondaidaaGreatDoor
namespace Go.Proofs.YtakahpbondaidaaGreatDoor
open Go.RowKit

theorem nmay9_v {p q : Int} {v : Bool} (h : Hid (mayB p q = v)) (w : World) : Calls Tryz.prog 183 #[.agg #[.int .i64 p, .int .i64 q]] w fun e w' => e = .returned (.bool v) ∧ Plus w w' := by
  rw [← h.out]
  exact rmay_c p q w
theorem bmay9_v {g : Bool} {A : Option Addr} {xs : List Nat} {n c : Nat} {v : Bool} (hr : Hid (Bg.mayL g xs = v)) (w : World) (ha : Bg.Arg w A xs n c) :
    Calls Tryz.prog 184 #[.agg #[.bool g, .slice A n c]] w fun e w' => e = .returned (.bool v) ∧ Plus w w' := by
  have := Bg.rmay_c g A xs n c w ha.lim ha.len (by have := ha.few; omega)
  rw [hr.out] at this
  exact this
set_option maxRecDepth 100000 in
set_option maxHeartbeats 4000000 in
theorem may9_0y {p q : Int} {g : Bool} {A C : Option Addr} {xs us : List Nat} {n c m d : Nat} {r : Int} {z : Bool} (w : World) (H : Hid (VM w A xs n c C us m d)) (hz : Hid (sameV 0 p q g xs us r 0 0 0 false [] [] 0 = z)) : Calls Tryz.prog 97 #[Value.agg #[.int .i64 0, .int .i64 p, .int .i64 q, .bool g, .slice A n c, .slice C m d, .int .i64 r]] w fun e w' => e = .returned (.bool z) ∧ Plus w w' := by
  go_enter Tryz.func97, Tryz.ntmps97
  go_wp2_with (first | (go_at_call 26; (with_reducible refine (same9_v hz _ (H.out.plus (by repeat' (first | exact Plus.refl _ | refine Plus.alloc ?_ _ | refine Plus.plus ?_ _ | refine Plus.drew ?_ | refine Plus.drewN ?_ _))) ⟨(Ar.nil _ _ _ _ (by omega) _), (Ar.nil _ _ _ _ (by omega) _)⟩).mono ?_); rintro e w1 ⟨rfl, ⟨x9, rfl⟩⟩))
  all_goals go_returns
  all_goals exact ⟨rfl, (by repeat' (first | exact Plus.refl _ | refine Plus.alloc ?_ _ | refine Plus.plus ?_ _ | refine Plus.drew ?_ | refine Plus.drewN ?_ _))⟩
set_option maxRecDepth 100000 in
set_option maxHeartbeats 4000000 in
theorem may9_1y {p q : Int} {g : Bool} {A C : Option Addr} {xs us : List Nat} {n c m d : Nat} {r : Int} {z : Bool} (w : World) (H : Hid (VM w A xs n c C us m d)) (hz : Hid (sameV 1 p q g xs us r 1 0 0 false [] [] 0 = z)) : Calls Tryz.prog 97 #[Value.agg #[.int .i64 1, .int .i64 p, .int .i64 q, .bool g, .slice A n c, .slice C m d, .int .i64 r]] w fun e w' => e = .returned (.bool z) ∧ Plus w w' := by
  go_enter Tryz.func97, Tryz.ntmps97
  go_wp2_with (first | (go_at_call 26; (with_reducible refine (same9_v hz _ (H.out.plus (by repeat' (first | exact Plus.refl _ | refine Plus.alloc ?_ _ | refine Plus.plus ?_ _ | refine Plus.drew ?_ | refine Plus.drewN ?_ _))) ⟨(Ar.nil _ _ _ _ (by omega) _), (Ar.nil _ _ _ _ (by omega) _)⟩).mono ?_); rintro e w1 ⟨rfl, ⟨x9, rfl⟩⟩))
  all_goals go_returns
  all_goals exact ⟨rfl, (by repeat' (first | exact Plus.refl _ | refine Plus.alloc ?_ _ | refine Plus.plus ?_ _ | refine Plus.drew ?_ | refine Plus.drewN ?_ _))⟩
set_option maxRecDepth 100000 in
set_option maxHeartbeats 4000000 in
theorem may9_2y0 {p q : Int} {g : Bool} {A C : Option Addr} {xs us : List Nat} {n c m d : Nat} {r : Int} {z : Bool} (w : World) (H : Hid (VM w A xs n c C us m d)) (hz : Hid (sameV 2 p q g xs us r 2 0 0 false [] [] r = z)) (hr : r = 0) : Calls Tryz.prog 97 #[Value.agg #[.int .i64 2, .int .i64 p, .int .i64 q, .bool g, .slice A n c, .slice C m d, .int .i64 r]] w fun e w' => e = .returned (.bool z) ∧ Plus w w' := by
  subst hr
  go_enter Tryz.func97, Tryz.ntmps97
  go_wp2_with (first | (go_at_call 26; (with_reducible refine (same9_v hz _ (H.out.plus (by repeat' (first | exact Plus.refl _ | refine Plus.alloc ?_ _ | refine Plus.plus ?_ _ | refine Plus.drew ?_ | refine Plus.drewN ?_ _))) ⟨(Ar.nil _ _ _ _ (by omega) _), (Ar.nil _ _ _ _ (by omega) _)⟩).mono ?_); rintro e w1 ⟨rfl, ⟨x9, rfl⟩⟩))
  all_goals go_returns
  all_goals exact ⟨rfl, (by repeat' (first | exact Plus.refl _ | refine Plus.alloc ?_ _ | refine Plus.plus ?_ _ | refine Plus.drew ?_ | refine Plus.drewN ?_ _))⟩
set_option maxRecDepth 100000 in
set_option maxHeartbeats 4000000 in
theorem may9_2y1 {p q : Int} {g : Bool} {A C : Option Addr} {xs us : List Nat} {n c m d : Nat} {r : Int} {z : Bool} (w : World) (H : Hid (VM w A xs n c C us m d)) (hz : Hid (sameV 2 p q g xs us r 2 0 0 false [] [] r = z)) (hr : r = 1) : Calls Tryz.prog 97 #[Value.agg #[.int .i64 2, .int .i64 p, .int .i64 q, .bool g, .slice A n c, .slice C m d, .int .i64 r]] w fun e w' => e = .returned (.bool z) ∧ Plus w w' := by
  subst hr
  go_enter Tryz.func97, Tryz.ntmps97
  go_wp2_with (first | (go_at_call 26; (with_reducible refine (same9_v hz _ (H.out.plus (by repeat' (first | exact Plus.refl _ | refine Plus.alloc ?_ _ | refine Plus.plus ?_ _ | refine Plus.drew ?_ | refine Plus.drewN ?_ _))) ⟨(Ar.nil _ _ _ _ (by omega) _), (Ar.nil _ _ _ _ (by omega) _)⟩).mono ?_); rintro e w1 ⟨rfl, ⟨x9, rfl⟩⟩))
  all_goals go_returns
  all_goals exact ⟨rfl, (by repeat' (first | exact Plus.refl _ | refine Plus.alloc ?_ _ | refine Plus.plus ?_ _ | refine Plus.drew ?_ | refine Plus.drewN ?_ _))⟩
set_option maxRecDepth 100000 in
set_option maxHeartbeats 4000000 in
theorem may9_2n {p q : Int} {g : Bool} {A C : Option Addr} {n c m d : Nat} {r : Int} (w : World) (h0 : (r != 0) = true) (h1 : (r != 1) = true) : Calls Tryz.prog 97 #[Value.agg #[.int .i64 2, .int .i64 p, .int .i64 q, .bool g, .slice A n c, .slice C m d, .int .i64 r]] w fun e w' => e = .returned (.bool false) ∧ Plus w w' := by
  go_enter Tryz.func97, Tryz.ntmps97
  go_wp2_with fail
  all_goals go_returns
  all_goals exact ⟨rfl, (by repeat' (first | exact Plus.refl _ | refine Plus.alloc ?_ _ | refine Plus.plus ?_ _ | refine Plus.drew ?_ | refine Plus.drewN ?_ _))⟩
set_option maxRecDepth 100000 in
set_option maxHeartbeats 4000000 in
theorem may9_3y {p q : Int} {g : Bool} {A C : Option Addr} {xs us : List Nat} {n c m d : Nat} {r : Int} {z : Bool} (w : World) (H : Hid (VM w A xs n c C us m d)) (hz : Hid (sameV 3 p q g xs us r 3 p q false [] [] 0 = z)) (hm : Hid (mayB p q = true)) : Calls Tryz.prog 97 #[Value.agg #[.int .i64 3, .int .i64 p, .int .i64 q, .bool g, .slice A n c, .slice C m d, .int .i64 r]] w fun e w' => e = .returned (.bool z) ∧ Plus w w' := by
  go_enter Tryz.func97, Tryz.ntmps97
  go_wp2_with (first | (go_at_call 26; (with_reducible refine (same9_v hz _ (H.out.plus (by repeat' (first | exact Plus.refl _ | refine Plus.alloc ?_ _ | refine Plus.plus ?_ _ | refine Plus.drew ?_ | refine Plus.drewN ?_ _))) ⟨(Ar.nil _ _ _ _ (by omega) _), (Ar.nil _ _ _ _ (by omega) _)⟩).mono ?_); rintro e w1 ⟨rfl, ⟨x9, rfl⟩⟩) | (go_at_call 183; (with_reducible refine (nmay9_v hm _).mono ?_); rintro e w1 ⟨rfl, ⟨x1, rfl⟩⟩))
  all_goals go_returns
  all_goals exact ⟨rfl, (by repeat' (first | exact Plus.refl _ | refine Plus.alloc ?_ _ | refine Plus.plus ?_ _ | refine Plus.drew ?_ | refine Plus.drewN ?_ _))⟩
set_option maxRecDepth 100000 in
set_option maxHeartbeats 4000000 in
theorem may9_3n {p q : Int} {g : Bool} {A C : Option Addr} {n c m d : Nat} {r : Int} (w : World) (hm : Hid (mayB p q = false)) : Calls Tryz.prog 97 #[Value.agg #[.int .i64 3, .int .i64 p, .int .i64 q, .bool g, .slice A n c, .slice C m d, .int .i64 r]] w fun e w' => e = .returned (.bool false) ∧ Plus w w' := by
  go_enter Tryz.func97, Tryz.ntmps97
  go_wp2_with (first | (go_at_call 183; (with_reducible refine (nmay9_v hm _).mono ?_); rintro e w1 ⟨rfl, ⟨x1, rfl⟩⟩))
  all_goals go_returns
  all_goals exact ⟨rfl, (by repeat' (first | exact Plus.refl _ | refine Plus.alloc ?_ _ | refine Plus.plus ?_ _ | refine Plus.drew ?_ | refine Plus.drewN ?_ _))⟩
set_option maxRecDepth 100000 in
set_option maxHeartbeats 4000000 in
theorem may9_4y {p q : Int} {g : Bool} {A C : Option Addr} {xs us : List Nat} {n c m d : Nat} {r : Int} {z : Bool} (w : World) (H : Hid (VM w A xs n c C us m d)) (hz : Hid (sameV 4 p q g xs us r 4 0 0 g xs [] 0 = z)) (hf : n ≤ 1048576) (hm : Hid (Bg.mayL g xs = true)) : Calls Tryz.prog 97 #[Value.agg #[.int .i64 4, .int .i64 p, .int .i64 q, .bool g, .slice A n c, .slice C m d, .int .i64 r]] w fun e w' => e = .returned (.bool z) ∧ Plus w w' := by
  go_enter Tryz.func97, Tryz.ntmps97
  go_wp2_with (first | (go_at_call 26; (with_reducible refine (same9_v hz _ (H.out.plus (by repeat' (first | exact Plus.refl _ | refine Plus.alloc ?_ _ | refine Plus.plus ?_ _ | refine Plus.drew ?_ | refine Plus.drewN ?_ _))) ⟨(H.out.b.plus (by repeat' (first | exact Plus.refl _ | refine Plus.alloc ?_ _ | refine Plus.plus ?_ _ | refine Plus.drew ?_ | refine Plus.drewN ?_ _))), (Ar.nil _ _ _ _ (by omega) _)⟩).mono ?_); rintro e w1 ⟨rfl, ⟨x9, rfl⟩⟩) | (go_at_call 184; (with_reducible refine (bmay9_v hm _ (arg_ar (H.out.b.plus (by repeat' (first | exact Plus.refl _ | refine Plus.alloc ?_ _ | refine Plus.plus ?_ _ | refine Plus.drew ?_ | refine Plus.drewN ?_ _))) hf)).mono ?_); rintro e w1 ⟨rfl, ⟨x1, rfl⟩⟩))
  all_goals go_returns
  all_goals exact ⟨rfl, (by repeat' (first | exact Plus.refl _ | refine Plus.alloc ?_ _ | refine Plus.plus ?_ _ | refine Plus.drew ?_ | refine Plus.drewN ?_ _))⟩
set_option maxRecDepth 100000 in
set_option maxHeartbeats 4000000 in
theorem may9_4n {p q : Int} {g : Bool} {A C : Option Addr} {xs us : List Nat} {n c m d : Nat} {r : Int} (w : World) (H : Hid (VM w A xs n c C us m d)) (hf : n ≤ 1048576) (hm : Hid (Bg.mayL g xs = false)) : Calls Tryz.prog 97 #[Value.agg #[.int .i64 4, .int .i64 p, .int .i64 q, .bool g, .slice A n c, .slice C m d, .int .i64 r]] w fun e w' => e = .returned (.bool false) ∧ Plus w w' := by
  go_enter Tryz.func97, Tryz.ntmps97
  go_wp2_with (first | (go_at_call 184; (with_reducible refine (bmay9_v hm _ (arg_ar (H.out.b.plus (by repeat' (first | exact Plus.refl _ | refine Plus.alloc ?_ _ | refine Plus.plus ?_ _ | refine Plus.drew ?_ | refine Plus.drewN ?_ _))) hf)).mono ?_); rintro e w1 ⟨rfl, ⟨x1, rfl⟩⟩))
  all_goals go_returns
  all_goals exact ⟨rfl, (by repeat' (first | exact Plus.refl _ | refine Plus.alloc ?_ _ | refine Plus.plus ?_ _ | refine Plus.drew ?_ | refine Plus.drewN ?_ _))⟩
set_option maxRecDepth 100000 in
set_option maxHeartbeats 4000000 in
theorem may9_5y {p q : Int} {g : Bool} {A C : Option Addr} {xs us : List Nat} {n c m d : Nat} {r : Int} {z : Bool} (w : World) (H : Hid (VM w A xs n c C us m d)) (hz : Hid (sameV 5 p q g xs us r 5 0 0 false [] us 0 = z)) (hm : m ≤ 4096) : Calls Tryz.prog 97 #[Value.agg #[.int .i64 5, .int .i64 p, .int .i64 q, .bool g, .slice A n c, .slice C m d, .int .i64 r]] w fun e w' => e = .returned (.bool z) ∧ Plus w w' := by
  go_enter Tryz.func97, Tryz.ntmps97
  go_wp2_with (first | (go_at_call 26; (with_reducible refine (same9_v hz _ (H.out.plus (by repeat' (first | exact Plus.refl _ | refine Plus.alloc ?_ _ | refine Plus.plus ?_ _ | refine Plus.drew ?_ | refine Plus.drewN ?_ _))) ⟨(Ar.nil _ _ _ _ (by omega) _), (H.out.s.plus (by repeat' (first | exact Plus.refl _ | refine Plus.alloc ?_ _ | refine Plus.plus ?_ _ | refine Plus.drew ?_ | refine Plus.drewN ?_ _)))⟩).mono ?_); rintro e w1 ⟨rfl, ⟨x9, rfl⟩⟩))
  all_goals go_returns
  all_goals exact ⟨rfl, (by repeat' (first | exact Plus.refl _ | refine Plus.alloc ?_ _ | refine Plus.plus ?_ _ | refine Plus.drew ?_ | refine Plus.drewN ?_ _))⟩
set_option maxRecDepth 100000 in
set_option maxHeartbeats 4000000 in
theorem may9_5n {p q : Int} {g : Bool} {A C : Option Addr} {n c m d : Nat} {r : Int} (w : World) (hm : ¬ m ≤ 4096) : Calls Tryz.prog 97 #[Value.agg #[.int .i64 5, .int .i64 p, .int .i64 q, .bool g, .slice A n c, .slice C m d, .int .i64 r]] w fun e w' => e = .returned (.bool false) ∧ Plus w w' := by
  go_enter Tryz.func97, Tryz.ntmps97
  go_wp2_with fail
  all_goals go_returns
  all_goals exact ⟨rfl, (by repeat' (first | exact Plus.refl _ | refine Plus.alloc ?_ _ | refine Plus.plus ?_ _ | refine Plus.drew ?_ | refine Plus.drewN ?_ _))⟩
set_option maxRecDepth 100000 in
set_option maxHeartbeats 4000000 in
theorem may9_6y {p q : Int} {g : Bool} {A C : Option Addr} {xs us : List Nat} {n c m d : Nat} {r : Int} {z : Bool} (w : World) (H : Hid (VM w A xs n c C us m d)) (hz : Hid (sameV 6 p q g xs us r 6 0 0 false [] [] r = z)) (hm : 0 ≤ r) : Calls Tryz.prog 97 #[Value.agg #[.int .i64 6, .int .i64 p, .int .i64 q, .bool g, .slice A n c, .slice C m d, .int .i64 r]] w fun e w' => e = .returned (.bool z) ∧ Plus w w' := by
  go_enter Tryz.func97, Tryz.ntmps97
  go_wp2_with (first | (go_at_call 26; (with_reducible refine (same9_v hz _ (H.out.plus (by repeat' (first | exact Plus.refl _ | refine Plus.alloc ?_ _ | refine Plus.plus ?_ _ | refine Plus.drew ?_ | refine Plus.drewN ?_ _))) ⟨(Ar.nil _ _ _ _ (by omega) _), (Ar.nil _ _ _ _ (by omega) _)⟩).mono ?_); rintro e w1 ⟨rfl, ⟨x9, rfl⟩⟩))
  all_goals go_returns
  all_goals exact ⟨rfl, (by repeat' (first | exact Plus.refl _ | refine Plus.alloc ?_ _ | refine Plus.plus ?_ _ | refine Plus.drew ?_ | refine Plus.drewN ?_ _))⟩
set_option maxRecDepth 100000 in
set_option maxHeartbeats 4000000 in
theorem may9_6n {p q : Int} {g : Bool} {A C : Option Addr} {n c m d : Nat} {r : Int} (w : World) (hm : ¬ 0 ≤ r) : Calls Tryz.prog 97 #[Value.agg #[.int .i64 6, .int .i64 p, .int .i64 q, .bool g, .slice A n c, .slice C m d, .int .i64 r]] w fun e w' => e = .returned (.bool false) ∧ Plus w w' := by
  go_enter Tryz.func97, Tryz.ntmps97
  go_wp2_with fail
  all_goals go_returns
  all_goals exact ⟨rfl, (by repeat' (first | exact Plus.refl _ | refine Plus.alloc ?_ _ | refine Plus.plus ?_ _ | refine Plus.drew ?_ | refine Plus.drewN ?_ _))⟩
set_option maxRecDepth 100000 in
set_option maxHeartbeats 4000000 in
theorem may9_o {k p q : Int} {g : Bool} {A C : Option Addr} {n c m d : Nat} {r : Int} (w : World) (b0 : (k == 0) = false) (b1 : (k == 1) = false) (b2 : (k == 2) = false) (b3 : (k == 3) = false) (b4 : (k == 4) = false) (b5 : (k == 5) = false) (b6 : (k == 6) = false) :
    Calls Tryz.prog 97 #[Value.agg #[.int .i64 k, .int .i64 p, .int .i64 q, .bool g, .slice A n c, .slice C m d, .int .i64 r]] w fun e w' => e = .returned (.bool false) ∧ Plus w w' := by
  go_enter Tryz.func97, Tryz.ntmps97
  go_wp2_with fail
  go_returns
  exact ⟨rfl, (by repeat' (first | exact Plus.refl _ | refine Plus.alloc ?_ _ | refine Plus.plus ?_ _ | refine Plus.drew ?_ | refine Plus.drewN ?_ _))⟩
theorem hmay9_c (k p q : Int) (g : Bool) (A C : Option Addr) (xs us : List Nat) (n c m d : Nat) (r : Int) (w : World) (h : VM w A xs n c C us m d) (hf : n ≤ 1048576) : Calls Tryz.prog 97 #[Value.agg #[.int .i64 k, .int .i64 p, .int .i64 q, .bool g, .slice A n c, .slice C m d, .int .i64 r]] w fun e w' => e = .returned (.bool (mayV k p q g xs us r)) ∧ Plus w w' := by
  have hm : m = us.length := h.s.len
  by_cases k0 : k = 0
  · subst k0
    exact may9_0y w (Lib.hid h) (Lib.hid (by unfold sameV mayV; simp))
  by_cases k1 : k = 1
  · subst k1
    exact may9_1y w (Lib.hid h) (Lib.hid (by unfold sameV mayV; simp))
  by_cases k2 : k = 2
  · subst k2
    by_cases r0 : r = 0
    · exact may9_2y0 w (Lib.hid h) (Lib.hid (by unfold sameV mayV; simp [r0])) r0
    · by_cases r1 : r = 1
      · exact may9_2y1 w (Lib.hid h) (Lib.hid (by unfold sameV mayV; simp [r1])) r1
      · rw [show mayV 2 p q g xs us r = false by unfold mayV; simp [r0, r1]]
        exact may9_2n w (by simp [r0]) (by simp [r1])
  by_cases k3 : k = 3
  · subst k3
    by_cases hb : mayB p q = true
    · exact may9_3y w (Lib.hid h) (Lib.hid (by unfold sameV mayV; simp [hb])) (Lib.hid hb)
    · rw [show mayV 3 p q g xs us r = false by unfold mayV; simp [hb]]
      exact may9_3n w (Lib.hid (by simpa using hb))
  by_cases k4 : k = 4
  · subst k4
    by_cases hb : Bg.mayL g xs = true
    · exact may9_4y w (Lib.hid h) (Lib.hid (by unfold sameV mayV; simp [hb])) hf (Lib.hid hb)
    · rw [show mayV 4 p q g xs us r = false by unfold mayV; simp [hb]]
      exact may9_4n w (Lib.hid h) hf (Lib.hid (by simpa using hb))
  by_cases k5 : k = 5
  · subst k5
    by_cases hb : m ≤ 4096
    · exact may9_5y w (Lib.hid h) (Lib.hid (by unfold sameV mayV; rw [hm] at hb; simp [hb])) hb
    · rw [show mayV 5 p q g xs us r = false by unfold mayV; rw [hm] at hb; simp [hb]]
      exact may9_5n w hb
  by_cases k6 : k = 6
  · subst k6
    by_cases hb : 0 ≤ r
    · exact may9_6y w (Lib.hid h) (Lib.hid (by unfold sameV mayV; simp [hb])) hb
    · rw [show mayV 6 p q g xs us r = false by unfold mayV; simp [hb]]
      exact may9_6n w hb
  · rw [show mayV k p q g xs us r = false by unfold mayV; simp [k0, k1, k2, k3, k4, k5, k6]]
    exact may9_o w (beq_f k0) (beq_f k1) (beq_f k2) (beq_f k3) (beq_f k4) (beq_f k5) (beq_f k6)
theorem hmay9_v {k p q : Int} {g : Bool} {A C : Option Addr} {xs us : List Nat} {n c m d : Nat} {r : Int} {z : Bool} (hz : Hid (mayV k p q g xs us r = z)) (w : World) (h : VM w A xs n c C us m d) (hf : n ≤ 1048576) : Calls Tryz.prog 97 #[Value.agg #[.int .i64 k, .int .i64 p, .int .i64 q, .bool g, .slice A n c, .slice C m d, .int .i64 r]] w fun e w' => e = .returned (.bool z) ∧ Plus w w' := by
  rw [← hz.out]
  exact hmay9_c _ _ _ _ _ _ _ _ _ _ _ _ _ w h hf
set_option maxRecDepth 100000 in
set_option maxHeartbeats 4000000 in
theorem rgood9_y {k p q : Int} {g : Bool} {A C : Option Addr} {xs us : List Nat} {n c m d : Nat} {r : Int} (hz : Hid (mayV k p q g xs us r = true)) (w : World) (H : Hid (VM w A xs n c C us m d)) (hf : n ≤ 1048576) : Calls Tryz.prog 45 #[Value.agg #[.int .i64 k, .int .i64 p, .int .i64 q, .bool g, .slice A n c, .slice C m d, .int .i64 r]] w fun e w' => e = .returned (Value.agg #[.int .i64 k, .int .i64 p, .int .i64 q, .bool g, .slice A n c, .slice C m d, .int .i64 r]) ∧ Plus w w' := by
  go_enter Tryz.func45, Tryz.ntmps45
  go_wp2_with (go_at_call 97; (with_reducible refine (hmay9_v hz _ (H.out.plus (by repeat' (first | exact Plus.refl _ | refine Plus.alloc ?_ _ | refine Plus.plus ?_ _ | refine Plus.drew ?_ | refine Plus.drewN ?_ _))) hf).mono ?_); rintro e w1 ⟨rfl, ⟨x1, rfl⟩⟩)
  go_returns
  exact ⟨rfl, (by repeat' (first | exact Plus.refl _ | refine Plus.alloc ?_ _ | refine Plus.plus ?_ _ | refine Plus.drew ?_ | refine Plus.drewN ?_ _))⟩
set_option maxRecDepth 100000 in
set_option maxHeartbeats 4000000 in
theorem rgood9_n {k p q : Int} {g : Bool} {A C : Option Addr} {xs us : List Nat} {n c m d : Nat} {r : Int} (hz : Hid (mayV k p q g xs us r = false)) (w : World) (H : Hid (VM w A xs n c C us m d)) (hf : n ≤ 1048576) : Calls Tryz.prog 45 #[Value.agg #[.int .i64 k, .int .i64 p, .int .i64 q, .bool g, .slice A n c, .slice C m d, .int .i64 r]] w fun e w' => e = .returned nilV ∧ Plus w w' := by
  go_enter Tryz.func45, Tryz.ntmps45
  go_wp2_with (go_at_call 97; (with_reducible refine (hmay9_v hz _ (H.out.plus (by repeat' (first | exact Plus.refl _ | refine Plus.alloc ?_ _ | refine Plus.plus ?_ _ | refine Plus.drew ?_ | refine Plus.drewN ?_ _))) hf).mono ?_); rintro e w1 ⟨rfl, ⟨x1, rfl⟩⟩)
  go_returns
  exact ⟨rfl, (by repeat' (first | exact Plus.refl _ | refine Plus.alloc ?_ _ | refine Plus.plus ?_ _ | refine Plus.drew ?_ | refine Plus.drewN ?_ _))⟩
/-- renref9.good makes v' of v. -/
def Vldg (w : World) (v v' : Value) : Prop := ∀ w1, Plus w w1 → Calls Tryz.prog 45 #[v] w1 fun e w2 => e = .returned v' ∧ Plus w1 w2
theorem Vldg.plus {w w' : World} {v v' : Value} (h : Vldg w v v') (hp : Plus w w') : Vldg w' v v' := fun _ h1 => h _ (hp.trans h1)
theorem Vldg.call {w w1 : World} {v v' : Value} (h : Vldg w v v') (hp : Plus w w1) : Calls Tryz.prog 45 #[v] w1 fun e w2 => e = .returned v' ∧ Plus w1 w2 := h w1 hp
theorem NV.vldg {w : World} {v' : Value} {x : JV} (h : NV w v' x) : Vldg w v' v' := by
  obtain ⟨k, p, q, g, A, C, xs, us, n, c, m, d, r, rfl, hm, hf, _, hv⟩ := h.gen
  exact fun w1 hp => rgood9_y (Lib.hid hv) w1 (Lib.hid (hm.plus hp)) hf
/-- A value's valid form, and that valid tells it in every later world. -/
theorem nrmg (k p q : Int) (g : Bool) (A C : Option Addr) (xs us : List Nat) (n c m d : Nat) (r : Int) (w : World) (h : VM w A xs n c C us m d) (hf : n ≤ 1048576) : ∃ v', NV w v' (jv k p q g xs us r) ∧ Vld w (Value.agg #[.int .i64 k, .int .i64 p, .int .i64 q, .bool g, .slice A n c, .slice C m d, .int .i64 r]) v' ∧ Vldg w (Value.agg #[.int .i64 k, .int .i64 p, .int .i64 q, .bool g, .slice A n c, .slice C m d, .int .i64 r]) v' := by
  by_cases hm : mayV k p q g xs us r = true
  · refine ⟨Value.agg #[.int .i64 k, .int .i64 p, .int .i64 q, .bool g, .slice A n c, .slice C m d, .int .i64 r], ?_, fun w1 hp => valid_y (Lib.hid hm) w1 (Lib.hid (h.plus hp)) hf, fun w1 hp => rgood9_y (Lib.hid hm) w1 (Lib.hid (h.plus hp)) hf⟩
    unfold jv
    rw [if_pos hm]
    have hn : n = xs.length := h.b.len
    have hM : m = us.length := h.s.len
    have hcm := h.b.max
    have hdm := h.s.max
    unfold mayV at hm
    rcases of_decide_eq_true hm with ⟨hk, rfl, rfl, rfl, rfl, rfl, rfl⟩ | ⟨rfl, rfl, rfl, rfl, rfl, rfl, hr⟩ | ⟨rfl, hb, rfl, rfl, rfl, rfl⟩ | ⟨rfl, rfl, rfl, hb, rfl, rfl⟩ | ⟨rfl, rfl, rfl, rfl, rfl, hb, rfl⟩ | ⟨rfl, rfl, rfl, rfl, rfl, rfl, hr⟩
    · obtain rfl : n = 0 := hn
      obtain rfl : m = 0 := hM
      rcases hk with rfl | rfl
      · exact ⟨_, _, _, _, rfl, hcm, hdm⟩
      · exact ⟨_, _, _, _, rfl, hcm, hdm⟩
    · obtain rfl : n = 0 := hn
      obtain rfl : m = 0 := hM
      rcases hr with rfl | rfl
      · exact ⟨_, _, _, _, rfl, hcm, hdm⟩
      · exact ⟨_, _, _, _, rfl, hcm, hdm⟩
    · obtain rfl : n = 0 := hn
      obtain rfl : m = 0 := hM
      exact ⟨_, _, _, _, rfl, hcm, hdm, isV_of_mayB hb⟩
    · obtain rfl : m = 0 := hM
      exact ⟨_, _, _, _, _, _, _, rfl, hdm, hb, rfl, arg_ar h.b hf⟩
    · obtain rfl : n = 0 := hn
      exact ⟨_, _, _, _, _, rfl, hcm, hb, h.s⟩
    · obtain rfl : n = 0 := hn
      obtain rfl : m = 0 := hM
      exact ⟨_, _, _, _, rfl, hcm, hdm, hr⟩
  · have hm' : mayV k p q g xs us r = false := by simpa using hm
    refine ⟨nilV, ?_, fun w1 hp => valid_n (Lib.hid hm') w1 (Lib.hid (h.plus hp)) hf, fun w1 hp => rgood9_n (Lib.hid hm') w1 (Lib.hid (h.plus hp)) hf⟩
    unfold jv
    rw [if_neg hm]
    exact ⟨none, none, 0, 0, rfl, by omega, by omega⟩
end Go.Proofs.YtakahpbondaidaaGreatDoor
namespace Go.Proofs.YtakahpbondaidaaGreatDoor
open Go.RowKit

set_option maxRecDepth 100000 in
set_option maxHeartbeats 4000000 in
theorem plain9_c {k p q : Int} {g : Bool} {A C : Option Addr} {n c m d : Nat} {r : Int} (w : World) : Calls Tryz.prog 8 #[Value.agg #[.int .i64 k, .int .i64 p, .int .i64 q, .bool g, .slice A n c, .slice C m d, .int .i64 r]] w fun e w' => e = .returned (Value.agg #[.int .i64 k, .int .i64 p, .int .i64 q, .bool g, .slice A n c, .slice C m d, .int .i64 r]) ∧ Plus w w' := by
  go_enter Tryz.func8, Tryz.ntmps8
  go_wp2_with fail
  go_returns
  exact ⟨rfl, (by repeat' (first | exact Plus.refl _ | refine Plus.alloc ?_ _ | refine Plus.plus ?_ _ | refine Plus.drew ?_ | refine Plus.drewN ?_ _))⟩
def SelfB (p q : Int) : Prop := decide (p = p ∧ q = q) = true
theorem selfB (p q : Int) : SelfB p q := by unfold SelfB; simp
theorem rnum_s {k n : Int} (h : SelfB k n) (w : World) : Calls Tryz.prog 16 #[.agg #[.int .i64 k, .int .i64 n], .agg #[.int .i64 k, .int .i64 n]] w fun e w' => e = .returned (.bool true) ∧ Plus w w' := by
  have := refNum_c k n k n w
  rw [h] at this
  exact this
theorem rbig_s' {g : Bool} {A C : Option Addr} {xs : List Nat} {n c m d : Nat} (h : SelfL xs) (w : World) (ha : Bg.Arg w A xs n c) (hb : Bg.Arg w C xs m d) :
    Calls Tryz.prog 18 #[.agg #[.bool g, .slice A n c], .agg #[.bool g, .slice C m d]] w fun e w' => e = .returned (.bool true) ∧ Plus w w' := rbig_s h w (Lib.hid ha) (Lib.hid hb)
theorem runits_s {A C : Option Addr} {xs : List Nat} {n c m d : Nat} (h : SelfL xs) (w : World) (ha : Ar .u16 65536 w A xs n c) (hb : Ar .u16 65536 w C xs m d) :
    Calls Tryz.prog 23 #[.slice A n c, .slice C m d] w fun e w' => e = .returned (.bool true) ∧ Plus w w' := by
  have := refUnits_c A C xs xs n c m d w ha hb
  rw [h] at this
  exact this
set_option maxRecDepth 100000 in
set_option maxHeartbeats 4000000 in
theorem same9_s {k p q : Int} {g : Bool} {A C A2 C2 : Option Addr} {xs us : List Nat} {n c m d n2 c2 m2 d2 : Nat} {r : Int} (h1 : SelfB p q) (h2 : SelfL xs) (h3 : SelfL us) (hf : n ≤ 1048576) (hf2 : n2 ≤ 1048576) (w : World) (H1 : Hid (VM w A xs n c C us m d)) (H2 : Hid (VM w A2 xs n2 c2 C2 us m2 d2)) : Calls Tryz.prog 26 #[Value.agg #[.int .i64 k, .int .i64 p, .int .i64 q, .bool g, .slice A n c, .slice C m d, .int .i64 r], Value.agg #[.int .i64 k, .int .i64 p, .int .i64 q, .bool g, .slice A2 n2 c2, .slice C2 m2 d2, .int .i64 r]] w fun e w' => e = .returned (.bool true) ∧ Plus w w' := by
  go_enter Tryz.func26, Tryz.ntmps26
  go_wp2_with (first | (go_at_call 16; (with_reducible refine (rnum_s h1 _).mono ?_); rintro e w1 ⟨rfl, ⟨x1, rfl⟩⟩) | (go_at_call 18; (with_reducible refine (rbig_s' h2 _ (arg_ar (H1.out.b.plus (by repeat' (first | exact Plus.refl _ | refine Plus.alloc ?_ _ | refine Plus.plus ?_ _ | refine Plus.drew ?_ | refine Plus.drewN ?_ _))) hf) (arg_ar (H2.out.b.plus (by repeat' (first | exact Plus.refl _ | refine Plus.alloc ?_ _ | refine Plus.plus ?_ _ | refine Plus.drew ?_ | refine Plus.drewN ?_ _))) hf2)).mono ?_); rintro e w1 ⟨rfl, ⟨x2, rfl⟩⟩) | (go_at_call 23; (with_reducible refine (runits_s h3 _ (H1.out.s.plus (by repeat' (first | exact Plus.refl _ | refine Plus.alloc ?_ _ | refine Plus.plus ?_ _ | refine Plus.drew ?_ | refine Plus.drewN ?_ _))) (H2.out.s.plus (by repeat' (first | exact Plus.refl _ | refine Plus.alloc ?_ _ | refine Plus.plus ?_ _ | refine Plus.drew ?_ | refine Plus.drewN ?_ _)))).mono ?_); rintro e w1 ⟨rfl, ⟨x3, rfl⟩⟩))
  go_returns
  exact ⟨rfl, (by repeat' (first | exact Plus.refl _ | refine Plus.alloc ?_ _ | refine Plus.plus ?_ _ | refine Plus.drew ?_ | refine Plus.drewN ?_ _))⟩
theorem same9_h {k p q : Int} {g : Bool} {A C A2 C2 : Option Addr} {xs us : List Nat} {n c m d n2 c2 m2 d2 : Nat} {r : Int} (h1 : SelfB p q) (h2 : SelfL xs) (h3 : SelfL us) (hf : n ≤ 1048576) (hf2 : n2 ≤ 1048576) (w : World) (H1 : VM w A xs n c C us m d) (H2 : VM w A2 xs n2 c2 C2 us m2 d2) : Calls Tryz.prog 26 #[Value.agg #[.int .i64 k, .int .i64 p, .int .i64 q, .bool g, .slice A n c, .slice C m d, .int .i64 r], Value.agg #[.int .i64 k, .int .i64 p, .int .i64 q, .bool g, .slice A2 n2 c2, .slice C2 m2 d2, .int .i64 r]] w fun e w' => e = .returned (.bool true) ∧ Plus w w' := same9_s h1 h2 h3 hf hf2 w (Lib.hid H1) (Lib.hid H2)
set_option maxRecDepth 100000 in
set_option maxHeartbeats 4000000 in
theorem is9_s {k p q : Int} {g : Bool} {A C A2 C2 : Option Addr} {xs us : List Nat} {n c m d n2 c2 m2 d2 : Nat} {r : Int} (h1 : SelfB p q) (h2 : SelfL xs) (h3 : SelfL us) (hf : n ≤ 1048576) (hf2 : n2 ≤ 1048576) (w : World) (H1 : Hid (VM w A xs n c C us m d)) (H2 : Hid (VM w A2 xs n2 c2 C2 us m2 d2)) : Calls Tryz.prog 17 #[Value.agg #[.int .i64 k, .int .i64 p, .int .i64 q, .bool g, .slice A n c, .slice C m d, .int .i64 r], Value.agg #[.int .i64 k, .int .i64 p, .int .i64 q, .bool g, .slice A2 n2 c2, .slice C2 m2 d2, .int .i64 r]] w fun e w' => e = .returned (.bool true) ∧ Plus w w' := by
  go_enter Tryz.func17, Tryz.ntmps17
  go_wp2_with fail
  refine wp_region_plus (by kernel_rfl) (by kernel_rfl) ?_
  repeat (go_big_quiet_step ((first | (go_at_call 8; exact calls_plus (plain9_c _)) | (go_at_call 26; exact calls_plus (same9_h h1 h2 h3 hf hf2 _ (H1.out.plus (by repeat' (first | exact Plus.refl _ | refine Plus.alloc ?_ _ | refine Plus.plus ?_ _ | refine Plus.drew ?_ | refine Plus.drewN ?_ _))) (H2.out.plus (by repeat' (first | exact Plus.refl _ | refine Plus.alloc ?_ _ | refine Plus.plus ?_ _ | refine Plus.drew ?_ | refine Plus.drewN ?_ _))))))))
  refine wpQuiet_nil ?_
  intro _ hw'
  obtain ⟨xq, rfl⟩ := hw'
  go_wp2_with fail
  go_returns
  exact ⟨rfl, (by repeat' (first | exact Plus.refl _ | refine Plus.alloc ?_ _ | refine Plus.plus ?_ _ | refine Plus.drew ?_ | refine Plus.drewN ?_ _))⟩
set_option maxRecDepth 100000 in
set_option maxHeartbeats 4000000 in
theorem oft_t (w : World) : Calls Tryz.prog 87 #[.bool true] w fun e w' => e = .returned (Value.agg #[.int .i64 2, .int .i64 0, .int .i64 0, .bool false, .slice none 0 0, .slice none 0 0, .int .i64 1]) ∧ Plus w w' := by
  go_enter Tryz.func87, Tryz.ntmps87
  go_wp2_with fail
  go_returns
  exact ⟨rfl, (by repeat' (first | exact Plus.refl _ | refine Plus.alloc ?_ _ | refine Plus.plus ?_ _ | refine Plus.drew ?_ | refine Plus.drewN ?_ _))⟩
set_option maxRecDepth 100000 in
set_option maxHeartbeats 4000000 in
theorem oft_f (w : World) : Calls Tryz.prog 87 #[.bool false] w fun e w' => e = .returned (Value.agg #[.int .i64 2, .int .i64 0, .int .i64 0, .bool false, .slice none 0 0, .slice none 0 0, .int .i64 0]) ∧ Plus w w' := by
  go_enter Tryz.func87, Tryz.ntmps87
  go_wp2_with fail
  go_returns
  exact ⟨rfl, (by repeat' (first | exact Plus.refl _ | refine Plus.alloc ?_ _ | refine Plus.plus ?_ _ | refine Plus.drew ?_ | refine Plus.drewN ?_ _))⟩
set_option maxRecDepth 100000 in
set_option maxHeartbeats 4000000 in
theorem ofn_c {p q : Int} (w : World) : Calls Tryz.prog 50 #[.agg #[.int .i64 p, .int .i64 q]] w fun e w' => e = .returned (Value.agg #[.int .i64 3, .int .i64 p, .int .i64 q, .bool false, .slice none 0 0, .slice none 0 0, .int .i64 0]) ∧ Plus w w' := by
  go_enter Tryz.func50, Tryz.ntmps50
  go_wp2_with fail
  go_returns
  exact ⟨rfl, (by repeat' (first | exact Plus.refl _ | refine Plus.alloc ?_ _ | refine Plus.plus ?_ _ | refine Plus.drew ?_ | refine Plus.drewN ?_ _))⟩
set_option maxRecDepth 100000 in
set_option maxHeartbeats 4000000 in
theorem copyUnits_h (A : Option Addr) (xs : List Nat) (n c : Nat) (w : World) (h : Rd .u16 w A xs) (hn : n = xs.length) (hl : xs.length ≤ 1048576) :
    Calls Tryz.prog 41 #[.slice A n c] w fun e w' => ∃ v, e = .returned v ∧ w'.ownsRow w.heap.size 87 1 v xs.length (vals .u16 xs) ∧ Plus w w' := by
  subst hn
  obtain ⟨i0, hi, hz0, hz1, hz2⟩ := info_parts infoU16
  have H := Lib.hid h
  rcases A with _ | ad
  · have h0 : xs = [] := by
      rcases xs with _ | ⟨x, xs⟩
      · rfl
      · obtain ⟨g, o, e, _⟩ := h (by simp)
        cases e
    subst h0
    clear h
    go_enter Tryz.func41, Tryz.ntmps41
    go_wp2
    go_ret
    exact ⟨_, rfl, World.ownsRow_made w #[] 0 (Nat.le_refl _) (Nat.zero_le _) rfl, (by repeat' (first | exact Plus.refl _ | refine Plus.alloc ?_ _ | refine Plus.plus ?_ _ | refine Plus.drew ?_ | refine Plus.drewN ?_ _))⟩
  · clear h
    go_enter Tryz.func41, Tryz.ntmps41
    go_wp2_with (at_builtin; refine wpList_append_own _ rfl _ _ 27 rfl w.heap.size 87 i0 (.int .u16 0) 1 2 Tryz.underlying27 hi hz0 hz1 hz2 rfl (by decide) _ _ _ rfl (World.ownsRow_made w #[] 0 (Nat.le_refl _) (Nat.zero_le _) rfl) ad xs.length c (vals .u16 xs) rfl (by rw [vals_len, Nat.mul_one]) (H.out.alloc _).news (one_vals .u16 xs) (by unfold maxLen; omega) (by omega) (by simp) ?_; intro v1 w1 hown1 hgr1 _; have HW1 := Lib.hid hown1; have HG1 := Lib.hid hgr1; clear hown1 hgr1)
    go_ret
    refine ⟨v1, rfl, by simpa using HW1.out, Plus.of_below (((Below.refl _ w).alloc (Nat.le_refl _) _).grown HG1.out (by simp) (fun k hk => by have hk' : some w.heap.size = some k := hk; injection hk' with hk'; omega))⟩
theorem copyUnits_n {A : Option Addr} {xs : List Nat} {n c : Nat} (w : World) (h : Ar .u16 65536 w A xs n c) (hl : n ≤ 1048576) :
    Calls Tryz.prog 41 #[.slice A n c] w fun e w' => ∃ (D : Option Addr) (k : Nat), e = .returned (.slice D n k) ∧ Ar .u16 65536 w' D xs n k ∧ Plus w w' := by
  refine (copyUnits_h A xs n c w h.rd h.len (by rw [← h.len]; exact hl)).mono ?_
  rintro e w' ⟨v, rfl, ho, hp⟩
  obtain ⟨D, k, rfl, h1, h2, h3⟩ := rd_of_own ho
  have hn := h.len
  subst hn
  exact ⟨D, k, rfl, ⟨h3, rfl, h1, h2, h.bd⟩, hp⟩
/-- What a call makes of a text, in every later world. -/
def MkS (F : FuncId) (w : World) (v : Value) (us : List Nat) (m : Nat) : Prop := ∀ w1, Plus w w1 → Calls Tryz.prog F #[v] w1 (StrP us m w1)
theorem MkS.call {F : FuncId} {w w1 : World} {v : Value} {us : List Nat} {m : Nat} (h : MkS F w v us m) (hp : Plus w w1) : Calls Tryz.prog F #[v] w1 (StrP us m w1) := h w1 hp
end Go.Proofs.YtakahpbondaidaaGreatDoor
