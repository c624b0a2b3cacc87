/- Walk of ConvMay. -/
import Derived.Test.YtmlfcmmgoiigkaaGreatDoorV22
namespace Go.Proofs.YtmlfcmmgoiigkaaGreatDoor
open Go.RowKit

set_option maxRecDepth 100000 in
set_option maxHeartbeats 4000000 in
theorem cm_f {k p q : Int} {g : Bool} {A C : Option Addr} {n c m d : Nat} {r : Int} (w : World) (hL : Hid (Lai w)) (hf : Hid (fewB m n = false)) : Calls Tryz.prog 7 #[Value.agg #[.int .i64 k, .int .i64 p, .int .i64 q, .bool g, .slice A n c, .slice C m d, .int .i64 r]] w fun e w' => e = .returned (.bool true) ∧ Plus w w' := by
  go_enter Tryz.func7, Tryz.ntmps7
  go_wp2_with (first | (go_at_call 10; (with_reducible refine (first_c _ (hL.out.plus (by repeat' (first | exact Plus.refl _ | refine Plus.alloc ?_ _ | refine Plus.plus ?_ _ | refine Plus.drew ?_ | refine Plus.drewN ?_ _)))).mono ?_); rintro e w1 ⟨rfl, ⟨xf, rfl⟩⟩) | (go_at_call_of 11 (Value.agg #[.int .i64 k, .int .i64 p, .int .i64 q, .bool g, .slice A n c, .slice C m d, .int .i64 r]); (with_reducible refine (few_v hf _).mono ?_); rintro e w1 ⟨rfl, ⟨xw, rfl⟩⟩))
  go_returns
  exact ⟨rfl, (by repeat' (first | exact Plus.refl _ | refine Plus.alloc ?_ _ | refine Plus.plus ?_ _ | refine Plus.drew ?_ | refine Plus.drewN ?_ _))⟩
set_option maxRecDepth 100000 in
set_option maxHeartbeats 4000000 in
theorem cm_A {k p q : Int} {g : Bool} {A C : Option Addr} {n c m d : Nat} {r : Int} {u : Value} {x : JV} {a b z : Int} {ts : List Nat} {m4 : Nat} {pb : Bool} {us : List Nat} (w : World) (hL : Hid (Lai w)) (hf : Hid (fewB m n = true)) (hn : Hid (NV w u x)) (hv : Hid (Vld w (Value.agg #[.int .i64 k, .int .i64 p, .int .i64 q, .bool g, .slice A n c, .slice C m d, .int .i64 r]) u)) (hJ : Hid (numJ x = ⟨a, b, 0⟩)) (hnb : ∀ y0, x ≠ .big y0) (hc : Hid (mayV 3 a b false [] [] 0 = true)) (ht : Hid (txtJ x = ⟨ts, 0⟩ ∧ m4 = ts.length)) (hg : Hid (bigJ x = ⟨z, 0⟩)) (hN : Hid (Bg.Nm z pb us)) (b0 : (k != 4) = true) : Calls Tryz.prog 7 #[Value.agg #[.int .i64 k, .int .i64 p, .int .i64 q, .bool g, .slice A n c, .slice C m d, .int .i64 r]] w fun e w' => e = .returned (.bool true) ∧ Plus w w' := by
  go_enter Tryz.func7, Tryz.ntmps7
  go_wp2_with (first | (go_at_call 10; (with_reducible refine (first_c _ (hL.out.plus (by repeat' (first | exact Plus.refl _ | refine Plus.alloc ?_ _ | refine Plus.plus ?_ _ | refine Plus.drew ?_ | refine Plus.drewN ?_ _)))).mono ?_); rintro e w1 ⟨rfl, ⟨xf, rfl⟩⟩) | (go_at_call_of 11 (Value.agg #[.int .i64 k, .int .i64 p, .int .i64 q, .bool g, .slice A n c, .slice C m d, .int .i64 r]); (with_reducible refine (few_v hf _).mono ?_); rintro e w1 ⟨rfl, ⟨xw, rfl⟩⟩) | (go_at_call 16; (with_reducible refine (cnumeric_y hJ hnb _ (hL.out.plus (by repeat' (first | exact Plus.refl _ | refine Plus.alloc ?_ _ | refine Plus.plus ?_ _ | refine Plus.drew ?_ | refine Plus.drewN ?_ _))) (hn.out.plus (by repeat' (first | exact Plus.refl _ | refine Plus.alloc ?_ _ | refine Plus.plus ?_ _ | refine Plus.drew ?_ | refine Plus.drewN ?_ _))) (hv.out.plus (by repeat' (first | exact Plus.refl _ | refine Plus.alloc ?_ _ | refine Plus.plus ?_ _ | refine Plus.drew ?_ | refine Plus.drewN ?_ _)))).mono ?_); rintro e1 w1 ⟨rfl, ⟨xn, rfl⟩⟩) | (go_at_call_of 23 (Value.agg #[.int .i64 k, .int .i64 p, .int .i64 q, .bool g, .slice A n c, .slice C m d, .int .i64 r]); (with_reducible refine (ctext_v ht _ (hL.out.plus (by repeat' (first | exact Plus.refl _ | refine Plus.alloc ?_ _ | refine Plus.plus ?_ _ | refine Plus.drew ?_ | refine Plus.drewN ?_ _))) (hn.out.plus (by repeat' (first | exact Plus.refl _ | refine Plus.alloc ?_ _ | refine Plus.plus ?_ _ | refine Plus.drew ?_ | refine Plus.drewN ?_ _))) (hv.out.plus (by repeat' (first | exact Plus.refl _ | refine Plus.alloc ?_ _ | refine Plus.plus ?_ _ | refine Plus.drew ?_ | refine Plus.drewN ?_ _)))).mono ?_); rintro e w1 ⟨D, Dk, rfl, Dh, ⟨Dx, rfl⟩⟩; have HD := Lib.hid Dh; clear Dh) | (go_at_call_of 18 (Value.agg #[.int .i64 k, .int .i64 p, .int .i64 q, .bool g, .slice A n c, .slice C m d, .int .i64 r]); (with_reducible refine (cbig_v hg hN _ (hn.out.plus (by repeat' (first | exact Plus.refl _ | refine Plus.alloc ?_ _ | refine Plus.plus ?_ _ | refine Plus.drew ?_ | refine Plus.drewN ?_ _))) (hv.out.plus (by repeat' (first | exact Plus.refl _ | refine Plus.alloc ?_ _ | refine Plus.plus ?_ _ | refine Plus.drew ?_ | refine Plus.drewN ?_ _)))).mono ?_); rintro e1 w1 ⟨B1, b1, rfl, hB, ⟨xb, rfl⟩⟩; have HB := Lib.hid hB; clear hB) | (go_at_call_of 41 (Value.agg #[.int .i64 3, .int .i64 a, .int .i64 b, .bool false, .slice none 0 0, .slice none 0 0, .int .i64 0]); (with_reducible refine (hmay_v hc _ (VM.nil _) (by omega)).mono ?_); rintro e1 w1 ⟨rfl, ⟨xm, rfl⟩⟩))
  go_returns
  exact ⟨rfl, (by repeat' (first | exact Plus.refl _ | refine Plus.alloc ?_ _ | refine Plus.plus ?_ _ | refine Plus.drew ?_ | refine Plus.drewN ?_ _))⟩
set_option maxRecDepth 100000 in
set_option maxHeartbeats 4000000 in
theorem cm_B {k p q : Int} {g : Bool} {A C : Option Addr} {n c m d : Nat} {r : Int} {u : Value} {x : JV} {a b sg : Int} {ts : List Nat} {m4 : Nat} (w : World) (hL : Hid (Lai w)) (hf : Hid (fewB m n = true)) (hn : Hid (NV w u x)) (hv : Hid (Vld w (Value.agg #[.int .i64 k, .int .i64 p, .int .i64 q, .bool g, .slice A n c, .slice C m d, .int .i64 r]) u)) (hJ : Hid (numJ x = ⟨a, b, 0⟩)) (hnb : ∀ y0, x ≠ .big y0) (hc : Hid (mayV 3 a b false [] [] 0 = true)) (ht : Hid (txtJ x = ⟨ts, 0⟩ ∧ m4 = ts.length)) (hg : Hid (bigJ x = ⟨0, sg⟩)) (hN : Hid (Bg.Nm 0 false [])) (hsg : (sg != 0) = true) (b0 : (k != 4) = true) : Calls Tryz.prog 7 #[Value.agg #[.int .i64 k, .int .i64 p, .int .i64 q, .bool g, .slice A n c, .slice C m d, .int .i64 r]] w fun e w' => e = .returned (.bool true) ∧ Plus w w' := by
  go_enter Tryz.func7, Tryz.ntmps7
  go_wp2_with (first | (go_at_call 10; (with_reducible refine (first_c _ (hL.out.plus (by repeat' (first | exact Plus.refl _ | refine Plus.alloc ?_ _ | refine Plus.plus ?_ _ | refine Plus.drew ?_ | refine Plus.drewN ?_ _)))).mono ?_); rintro e w1 ⟨rfl, ⟨xf, rfl⟩⟩) | (go_at_call_of 11 (Value.agg #[.int .i64 k, .int .i64 p, .int .i64 q, .bool g, .slice A n c, .slice C m d, .int .i64 r]); (with_reducible refine (few_v hf _).mono ?_); rintro e w1 ⟨rfl, ⟨xw, rfl⟩⟩) | (go_at_call 16; (with_reducible refine (cnumeric_y hJ hnb _ (hL.out.plus (by repeat' (first | exact Plus.refl _ | refine Plus.alloc ?_ _ | refine Plus.plus ?_ _ | refine Plus.drew ?_ | refine Plus.drewN ?_ _))) (hn.out.plus (by repeat' (first | exact Plus.refl _ | refine Plus.alloc ?_ _ | refine Plus.plus ?_ _ | refine Plus.drew ?_ | refine Plus.drewN ?_ _))) (hv.out.plus (by repeat' (first | exact Plus.refl _ | refine Plus.alloc ?_ _ | refine Plus.plus ?_ _ | refine Plus.drew ?_ | refine Plus.drewN ?_ _)))).mono ?_); rintro e1 w1 ⟨rfl, ⟨xn, rfl⟩⟩) | (go_at_call_of 23 (Value.agg #[.int .i64 k, .int .i64 p, .int .i64 q, .bool g, .slice A n c, .slice C m d, .int .i64 r]); (with_reducible refine (ctext_v ht _ (hL.out.plus (by repeat' (first | exact Plus.refl _ | refine Plus.alloc ?_ _ | refine Plus.plus ?_ _ | refine Plus.drew ?_ | refine Plus.drewN ?_ _))) (hn.out.plus (by repeat' (first | exact Plus.refl _ | refine Plus.alloc ?_ _ | refine Plus.plus ?_ _ | refine Plus.drew ?_ | refine Plus.drewN ?_ _))) (hv.out.plus (by repeat' (first | exact Plus.refl _ | refine Plus.alloc ?_ _ | refine Plus.plus ?_ _ | refine Plus.drew ?_ | refine Plus.drewN ?_ _)))).mono ?_); rintro e w1 ⟨D, Dk, rfl, Dh, ⟨Dx, rfl⟩⟩; have HD := Lib.hid Dh; clear Dh) | (go_at_call_of 18 (Value.agg #[.int .i64 k, .int .i64 p, .int .i64 q, .bool g, .slice A n c, .slice C m d, .int .i64 r]); (with_reducible refine (cbig_v hg hN _ (hn.out.plus (by repeat' (first | exact Plus.refl _ | refine Plus.alloc ?_ _ | refine Plus.plus ?_ _ | refine Plus.drew ?_ | refine Plus.drewN ?_ _))) (hv.out.plus (by repeat' (first | exact Plus.refl _ | refine Plus.alloc ?_ _ | refine Plus.plus ?_ _ | refine Plus.drew ?_ | refine Plus.drewN ?_ _)))).mono ?_); rintro e1 w1 ⟨B1, b1, rfl, hB, ⟨xb, rfl⟩⟩; have HB := Lib.hid hB; clear hB) | (go_at_call_of 41 (Value.agg #[.int .i64 3, .int .i64 a, .int .i64 b, .bool false, .slice none 0 0, .slice none 0 0, .int .i64 0]); (with_reducible refine (hmay_v hc _ (VM.nil _) (by omega)).mono ?_); rintro e1 w1 ⟨rfl, ⟨xm, rfl⟩⟩))
  go_returns
  exact ⟨rfl, (by repeat' (first | exact Plus.refl _ | refine Plus.alloc ?_ _ | refine Plus.plus ?_ _ | refine Plus.drew ?_ | refine Plus.drewN ?_ _))⟩
set_option maxRecDepth 100000 in
set_option maxHeartbeats 4000000 in
theorem cm_B4 {p q : Int} {g : Bool} {A C : Option Addr} {xs vs : List Nat} {n c m d : Nat} {r : Int} {u : Value} {x : JV} {a b sg : Int} {ts : List Nat} {m4 : Nat} (w : World) (hL : Hid (Lai w)) (hf : Hid (fewB m n = true)) (hn : Hid (NV w u x)) (hv : Hid (Vld w (Value.agg #[.int .i64 4, .int .i64 p, .int .i64 q, .bool g, .slice A n c, .slice C m d, .int .i64 r]) u)) (hJ : Hid (numJ x = ⟨a, b, 0⟩)) (hnb : ∀ y0, x ≠ .big y0) (hc : Hid (mayV 3 a b false [] [] 0 = true)) (ht : Hid (txtJ x = ⟨ts, 0⟩ ∧ m4 = ts.length)) (hg : Hid (bigJ x = ⟨0, sg⟩)) (hN : Hid (Bg.Nm 0 false [])) (hsg : (sg != 0) = true) (HM : Hid (VM w A xs n c C vs m d)) (hnn : n ≤ 40) (hmv : Hid (mayV 4 p q g xs vs r = false)) : Calls Tryz.prog 7 #[Value.agg #[.int .i64 4, .int .i64 p, .int .i64 q, .bool g, .slice A n c, .slice C m d, .int .i64 r]] w fun e w' => e = .returned (.bool true) ∧ Plus w w' := by
  go_enter Tryz.func7, Tryz.ntmps7
  go_wp2_with (first | (go_at_call 10; (with_reducible refine (first_c _ (hL.out.plus (by repeat' (first | exact Plus.refl _ | refine Plus.alloc ?_ _ | refine Plus.plus ?_ _ | refine Plus.drew ?_ | refine Plus.drewN ?_ _)))).mono ?_); rintro e w1 ⟨rfl, ⟨xf, rfl⟩⟩) | (go_at_call_of 11 (Value.agg #[.int .i64 4, .int .i64 p, .int .i64 q, .bool g, .slice A n c, .slice C m d, .int .i64 r]); (with_reducible refine (few_v hf _).mono ?_); rintro e w1 ⟨rfl, ⟨xw, rfl⟩⟩) | (go_at_call 16; (with_reducible refine (cnumeric_y hJ hnb _ (hL.out.plus (by repeat' (first | exact Plus.refl _ | refine Plus.alloc ?_ _ | refine Plus.plus ?_ _ | refine Plus.drew ?_ | refine Plus.drewN ?_ _))) (hn.out.plus (by repeat' (first | exact Plus.refl _ | refine Plus.alloc ?_ _ | refine Plus.plus ?_ _ | refine Plus.drew ?_ | refine Plus.drewN ?_ _))) (hv.out.plus (by repeat' (first | exact Plus.refl _ | refine Plus.alloc ?_ _ | refine Plus.plus ?_ _ | refine Plus.drew ?_ | refine Plus.drewN ?_ _)))).mono ?_); rintro e1 w1 ⟨rfl, ⟨xn, rfl⟩⟩) | (go_at_call_of 23 (Value.agg #[.int .i64 4, .int .i64 p, .int .i64 q, .bool g, .slice A n c, .slice C m d, .int .i64 r]); (with_reducible refine (ctext_v ht _ (hL.out.plus (by repeat' (first | exact Plus.refl _ | refine Plus.alloc ?_ _ | refine Plus.plus ?_ _ | refine Plus.drew ?_ | refine Plus.drewN ?_ _))) (hn.out.plus (by repeat' (first | exact Plus.refl _ | refine Plus.alloc ?_ _ | refine Plus.plus ?_ _ | refine Plus.drew ?_ | refine Plus.drewN ?_ _))) (hv.out.plus (by repeat' (first | exact Plus.refl _ | refine Plus.alloc ?_ _ | refine Plus.plus ?_ _ | refine Plus.drew ?_ | refine Plus.drewN ?_ _)))).mono ?_); rintro e w1 ⟨D, Dk, rfl, Dh, ⟨Dx, rfl⟩⟩; have HD := Lib.hid Dh; clear Dh) | (go_at_call_of 18 (Value.agg #[.int .i64 4, .int .i64 p, .int .i64 q, .bool g, .slice A n c, .slice C m d, .int .i64 r]); (with_reducible refine (cbig_v hg hN _ (hn.out.plus (by repeat' (first | exact Plus.refl _ | refine Plus.alloc ?_ _ | refine Plus.plus ?_ _ | refine Plus.drew ?_ | refine Plus.drewN ?_ _))) (hv.out.plus (by repeat' (first | exact Plus.refl _ | refine Plus.alloc ?_ _ | refine Plus.plus ?_ _ | refine Plus.drew ?_ | refine Plus.drewN ?_ _)))).mono ?_); rintro e1 w1 ⟨B1, b1, rfl, hB, ⟨xb, rfl⟩⟩; have HB := Lib.hid hB; clear hB) | (go_at_call_of 41 (Value.agg #[.int .i64 3, .int .i64 a, .int .i64 b, .bool false, .slice none 0 0, .slice none 0 0, .int .i64 0]); (with_reducible refine (hmay_v hc _ (VM.nil _) (by omega)).mono ?_); rintro e1 w1 ⟨rfl, ⟨xm, rfl⟩⟩) | (go_at_call_of 41 (Value.agg #[.int .i64 4, .int .i64 p, .int .i64 q, .bool g, .slice A n c, .slice C m d, .int .i64 r]); (with_reducible refine (hmay_v hmv _ (HM.out.plus (by repeat' (first | exact Plus.refl _ | refine Plus.alloc ?_ _ | refine Plus.plus ?_ _ | refine Plus.drew ?_ | refine Plus.drewN ?_ _))) (by omega)).mono ?_); rintro e1 w1 ⟨rfl, ⟨xv, rfl⟩⟩))
  go_returns
  exact ⟨rfl, (by repeat' (first | exact Plus.refl _ | refine Plus.alloc ?_ _ | refine Plus.plus ?_ _ | refine Plus.drew ?_ | refine Plus.drewN ?_ _))⟩
set_option maxRecDepth 100000 in
set_option maxHeartbeats 4000000 in
theorem cm_C {k p q : Int} {g : Bool} {A C : Option Addr} {n c m d : Nat} {r : Int} {u : Value} {x : JV} {a b t z : Int} {ts : List Nat} {m4 : Nat} {pb : Bool} {us : List Nat} (w : World) (hL : Hid (Lai w)) (hf : Hid (fewB m n = true)) (hn : Hid (NV w u x)) (hv : Hid (Vld w (Value.agg #[.int .i64 k, .int .i64 p, .int .i64 q, .bool g, .slice A n c, .slice C m d, .int .i64 r]) u)) (hJ : Hid (numJ x = ⟨a, b, t⟩)) (hnb : ∀ y0, x ≠ .big y0) (hns : (t != 0) = true) (hc : Hid (mayV 0 0 0 false [] [] 0 = true)) (hq : Hid (sameV 0 0 0 false [] [] 0 0 0 0 false [] [] 0 = true)) (ht : Hid (txtJ x = ⟨ts, 0⟩ ∧ m4 = ts.length)) (hg : Hid (bigJ x = ⟨z, 0⟩)) (hN : Hid (Bg.Nm z pb us)) (b0 : (k != 4) = true) : Calls Tryz.prog 7 #[Value.agg #[.int .i64 k, .int .i64 p, .int .i64 q, .bool g, .slice A n c, .slice C m d, .int .i64 r]] w fun e w' => e = .returned (.bool true) ∧ Plus w w' := by
  go_enter Tryz.func7, Tryz.ntmps7
  go_wp2_with (first | (go_at_call 10; (with_reducible refine (first_c _ (hL.out.plus (by repeat' (first | exact Plus.refl _ | refine Plus.alloc ?_ _ | refine Plus.plus ?_ _ | refine Plus.drew ?_ | refine Plus.drewN ?_ _)))).mono ?_); rintro e w1 ⟨rfl, ⟨xf, rfl⟩⟩) | (go_at_call_of 11 (Value.agg #[.int .i64 k, .int .i64 p, .int .i64 q, .bool g, .slice A n c, .slice C m d, .int .i64 r]); (with_reducible refine (few_v hf _).mono ?_); rintro e w1 ⟨rfl, ⟨xw, rfl⟩⟩) | (go_at_call 16; (with_reducible refine (cnumeric_e hJ hnb hns _ (hL.out.plus (by repeat' (first | exact Plus.refl _ | refine Plus.alloc ?_ _ | refine Plus.plus ?_ _ | refine Plus.drew ?_ | refine Plus.drewN ?_ _))) (hn.out.plus (by repeat' (first | exact Plus.refl _ | refine Plus.alloc ?_ _ | refine Plus.plus ?_ _ | refine Plus.drew ?_ | refine Plus.drewN ?_ _))) (hv.out.plus (by repeat' (first | exact Plus.refl _ | refine Plus.alloc ?_ _ | refine Plus.plus ?_ _ | refine Plus.drew ?_ | refine Plus.drewN ?_ _)))).mono ?_); rintro e1 w1 ⟨rfl, ⟨xn, rfl⟩⟩) | (go_at_call_of 23 (Value.agg #[.int .i64 k, .int .i64 p, .int .i64 q, .bool g, .slice A n c, .slice C m d, .int .i64 r]); (with_reducible refine (ctext_v ht _ (hL.out.plus (by repeat' (first | exact Plus.refl _ | refine Plus.alloc ?_ _ | refine Plus.plus ?_ _ | refine Plus.drew ?_ | refine Plus.drewN ?_ _))) (hn.out.plus (by repeat' (first | exact Plus.refl _ | refine Plus.alloc ?_ _ | refine Plus.plus ?_ _ | refine Plus.drew ?_ | refine Plus.drewN ?_ _))) (hv.out.plus (by repeat' (first | exact Plus.refl _ | refine Plus.alloc ?_ _ | refine Plus.plus ?_ _ | refine Plus.drew ?_ | refine Plus.drewN ?_ _)))).mono ?_); rintro e w1 ⟨D, Dk, rfl, Dh, ⟨Dx, rfl⟩⟩; have HD := Lib.hid Dh; clear Dh) | (go_at_call_of 18 (Value.agg #[.int .i64 k, .int .i64 p, .int .i64 q, .bool g, .slice A n c, .slice C m d, .int .i64 r]); (with_reducible refine (cbig_v hg hN _ (hn.out.plus (by repeat' (first | exact Plus.refl _ | refine Plus.alloc ?_ _ | refine Plus.plus ?_ _ | refine Plus.drew ?_ | refine Plus.drewN ?_ _))) (hv.out.plus (by repeat' (first | exact Plus.refl _ | refine Plus.alloc ?_ _ | refine Plus.plus ?_ _ | refine Plus.drew ?_ | refine Plus.drewN ?_ _)))).mono ?_); rintro e1 w1 ⟨B1, b1, rfl, hB, ⟨xb, rfl⟩⟩; have HB := Lib.hid hB; clear hB) | (go_at_call_of 41 (Value.agg #[.int .i64 0, .int .i64 0, .int .i64 0, .bool false, .slice none 0 0, .slice none 0 0, .int .i64 0]); (with_reducible refine (hmay_v hc _ (VM.nil _) (by omega)).mono ?_); rintro e1 w1 ⟨rfl, ⟨xm, rfl⟩⟩) | (go_at_call 42; (with_reducible refine (hsame_v hq _ (VM.nil _) (VM.nil _)).mono ?_); rintro e1 w1 ⟨rfl, ⟨xz, rfl⟩⟩))
  go_returns
  exact ⟨rfl, (by repeat' (first | exact Plus.refl _ | refine Plus.alloc ?_ _ | refine Plus.plus ?_ _ | refine Plus.drew ?_ | refine Plus.drewN ?_ _))⟩
set_option maxRecDepth 100000 in
set_option maxHeartbeats 4000000 in
theorem cm_D {k p q : Int} {g : Bool} {A C : Option Addr} {n c m d : Nat} {r : Int} {u : Value} {x : JV} {a b t sg : Int} {ts : List Nat} {m4 : Nat} (w : World) (hL : Hid (Lai w)) (hf : Hid (fewB m n = true)) (hn : Hid (NV w u x)) (hv : Hid (Vld w (Value.agg #[.int .i64 k, .int .i64 p, .int .i64 q, .bool g, .slice A n c, .slice C m d, .int .i64 r]) u)) (hJ : Hid (numJ x = ⟨a, b, t⟩)) (hnb : ∀ y0, x ≠ .big y0) (hns : (t != 0) = true) (hc : Hid (mayV 0 0 0 false [] [] 0 = true)) (hq : Hid (sameV 0 0 0 false [] [] 0 0 0 0 false [] [] 0 = true)) (ht : Hid (txtJ x = ⟨ts, 0⟩ ∧ m4 = ts.length)) (hg : Hid (bigJ x = ⟨0, sg⟩)) (hN : Hid (Bg.Nm 0 false [])) (hsg : (sg != 0) = true) (b0 : (k != 4) = true) : Calls Tryz.prog 7 #[Value.agg #[.int .i64 k, .int .i64 p, .int .i64 q, .bool g, .slice A n c, .slice C m d, .int .i64 r]] w fun e w' => e = .returned (.bool true) ∧ Plus w w' := by
  go_enter Tryz.func7, Tryz.ntmps7
  go_wp2_with (first | (go_at_call 10; (with_reducible refine (first_c _ (hL.out.plus (by repeat' (first | exact Plus.refl _ | refine Plus.alloc ?_ _ | refine Plus.plus ?_ _ | refine Plus.drew ?_ | refine Plus.drewN ?_ _)))).mono ?_); rintro e w1 ⟨rfl, ⟨xf, rfl⟩⟩) | (go_at_call_of 11 (Value.agg #[.int .i64 k, .int .i64 p, .int .i64 q, .bool g, .slice A n c, .slice C m d, .int .i64 r]); (with_reducible refine (few_v hf _).mono ?_); rintro e w1 ⟨rfl, ⟨xw, rfl⟩⟩) | (go_at_call 16; (with_reducible refine (cnumeric_e hJ hnb hns _ (hL.out.plus (by repeat' (first | exact Plus.refl _ | refine Plus.alloc ?_ _ | refine Plus.plus ?_ _ | refine Plus.drew ?_ | refine Plus.drewN ?_ _))) (hn.out.plus (by repeat' (first | exact Plus.refl _ | refine Plus.alloc ?_ _ | refine Plus.plus ?_ _ | refine Plus.drew ?_ | refine Plus.drewN ?_ _))) (hv.out.plus (by repeat' (first | exact Plus.refl _ | refine Plus.alloc ?_ _ | refine Plus.plus ?_ _ | refine Plus.drew ?_ | refine Plus.drewN ?_ _)))).mono ?_); rintro e1 w1 ⟨rfl, ⟨xn, rfl⟩⟩) | (go_at_call_of 23 (Value.agg #[.int .i64 k, .int .i64 p, .int .i64 q, .bool g, .slice A n c, .slice C m d, .int .i64 r]); (with_reducible refine (ctext_v ht _ (hL.out.plus (by repeat' (first | exact Plus.refl _ | refine Plus.alloc ?_ _ | refine Plus.plus ?_ _ | refine Plus.drew ?_ | refine Plus.drewN ?_ _))) (hn.out.plus (by repeat' (first | exact Plus.refl _ | refine Plus.alloc ?_ _ | refine Plus.plus ?_ _ | refine Plus.drew ?_ | refine Plus.drewN ?_ _))) (hv.out.plus (by repeat' (first | exact Plus.refl _ | refine Plus.alloc ?_ _ | refine Plus.plus ?_ _ | refine Plus.drew ?_ | refine Plus.drewN ?_ _)))).mono ?_); rintro e w1 ⟨D, Dk, rfl, Dh, ⟨Dx, rfl⟩⟩; have HD := Lib.hid Dh; clear Dh) | (go_at_call_of 18 (Value.agg #[.int .i64 k, .int .i64 p, .int .i64 q, .bool g, .slice A n c, .slice C m d, .int .i64 r]); (with_reducible refine (cbig_v hg hN _ (hn.out.plus (by repeat' (first | exact Plus.refl _ | refine Plus.alloc ?_ _ | refine Plus.plus ?_ _ | refine Plus.drew ?_ | refine Plus.drewN ?_ _))) (hv.out.plus (by repeat' (first | exact Plus.refl _ | refine Plus.alloc ?_ _ | refine Plus.plus ?_ _ | refine Plus.drew ?_ | refine Plus.drewN ?_ _)))).mono ?_); rintro e1 w1 ⟨B1, b1, rfl, hB, ⟨xb, rfl⟩⟩; have HB := Lib.hid hB; clear hB) | (go_at_call_of 41 (Value.agg #[.int .i64 0, .int .i64 0, .int .i64 0, .bool false, .slice none 0 0, .slice none 0 0, .int .i64 0]); (with_reducible refine (hmay_v hc _ (VM.nil _) (by omega)).mono ?_); rintro e1 w1 ⟨rfl, ⟨xm, rfl⟩⟩) | (go_at_call 42; (with_reducible refine (hsame_v hq _ (VM.nil _) (VM.nil _)).mono ?_); rintro e1 w1 ⟨rfl, ⟨xz, rfl⟩⟩))
  go_returns
  exact ⟨rfl, (by repeat' (first | exact Plus.refl _ | refine Plus.alloc ?_ _ | refine Plus.plus ?_ _ | refine Plus.drew ?_ | refine Plus.drewN ?_ _))⟩
set_option maxRecDepth 100000 in
set_option maxHeartbeats 4000000 in
theorem cm_E {k p q : Int} {g : Bool} {A C : Option Addr} {n c m d : Nat} {r : Int} {u : Value} {x : JV} {a b t sg : Int} {ts : List Nat} (w : World) (hL : Hid (Lai w)) (hf : Hid (fewB m n = true)) (hn : Hid (NV w u x)) (hv : Hid (Vld w (Value.agg #[.int .i64 k, .int .i64 p, .int .i64 q, .bool g, .slice A n c, .slice C m d, .int .i64 r]) u)) (hJ : Hid (numJ x = ⟨a, b, t⟩)) (hnb : ∀ y0, x ≠ .big y0) (hns : (t != 0) = true) (hc : Hid (mayV 0 0 0 false [] [] 0 = true)) (hq : Hid (sameV 0 0 0 false [] [] 0 0 0 0 false [] [] 0 = true)) (ht : Hid (txtJ x = ⟨ts, 3⟩ ∧ 0 = ts.length)) (hg : Hid (bigJ x = ⟨0, sg⟩)) (hN : Hid (Bg.Nm 0 false [])) (hsg : (sg != 0) = true) (b0 : (k != 4) = true) : Calls Tryz.prog 7 #[Value.agg #[.int .i64 k, .int .i64 p, .int .i64 q, .bool g, .slice A n c, .slice C m d, .int .i64 r]] w fun e w' => e = .returned (.bool true) ∧ Plus w w' := by
  go_enter Tryz.func7, Tryz.ntmps7
  go_wp2_with (first | (go_at_call 10; (with_reducible refine (first_c _ (hL.out.plus (by repeat' (first | exact Plus.refl _ | refine Plus.alloc ?_ _ | refine Plus.plus ?_ _ | refine Plus.drew ?_ | refine Plus.drewN ?_ _)))).mono ?_); rintro e w1 ⟨rfl, ⟨xf, rfl⟩⟩) | (go_at_call_of 11 (Value.agg #[.int .i64 k, .int .i64 p, .int .i64 q, .bool g, .slice A n c, .slice C m d, .int .i64 r]); (with_reducible refine (few_v hf _).mono ?_); rintro e w1 ⟨rfl, ⟨xw, rfl⟩⟩) | (go_at_call 16; (with_reducible refine (cnumeric_e hJ hnb hns _ (hL.out.plus (by repeat' (first | exact Plus.refl _ | refine Plus.alloc ?_ _ | refine Plus.plus ?_ _ | refine Plus.drew ?_ | refine Plus.drewN ?_ _))) (hn.out.plus (by repeat' (first | exact Plus.refl _ | refine Plus.alloc ?_ _ | refine Plus.plus ?_ _ | refine Plus.drew ?_ | refine Plus.drewN ?_ _))) (hv.out.plus (by repeat' (first | exact Plus.refl _ | refine Plus.alloc ?_ _ | refine Plus.plus ?_ _ | refine Plus.drew ?_ | refine Plus.drewN ?_ _)))).mono ?_); rintro e1 w1 ⟨rfl, ⟨xn, rfl⟩⟩) | (go_at_call_of 23 (Value.agg #[.int .i64 k, .int .i64 p, .int .i64 q, .bool g, .slice A n c, .slice C m d, .int .i64 r]); (with_reducible refine (ctext_v ht _ (hL.out.plus (by repeat' (first | exact Plus.refl _ | refine Plus.alloc ?_ _ | refine Plus.plus ?_ _ | refine Plus.drew ?_ | refine Plus.drewN ?_ _))) (hn.out.plus (by repeat' (first | exact Plus.refl _ | refine Plus.alloc ?_ _ | refine Plus.plus ?_ _ | refine Plus.drew ?_ | refine Plus.drewN ?_ _))) (hv.out.plus (by repeat' (first | exact Plus.refl _ | refine Plus.alloc ?_ _ | refine Plus.plus ?_ _ | refine Plus.drew ?_ | refine Plus.drewN ?_ _)))).mono ?_); rintro e w1 ⟨D, Dk, rfl, Dh, ⟨Dx, rfl⟩⟩; have HD := Lib.hid Dh; clear Dh) | (go_at_call_of 18 (Value.agg #[.int .i64 k, .int .i64 p, .int .i64 q, .bool g, .slice A n c, .slice C m d, .int .i64 r]); (with_reducible refine (cbig_v hg hN _ (hn.out.plus (by repeat' (first | exact Plus.refl _ | refine Plus.alloc ?_ _ | refine Plus.plus ?_ _ | refine Plus.drew ?_ | refine Plus.drewN ?_ _))) (hv.out.plus (by repeat' (first | exact Plus.refl _ | refine Plus.alloc ?_ _ | refine Plus.plus ?_ _ | refine Plus.drew ?_ | refine Plus.drewN ?_ _)))).mono ?_); rintro e1 w1 ⟨B1, b1, rfl, hB, ⟨xb, rfl⟩⟩; have HB := Lib.hid hB; clear hB) | (go_at_call_of 41 (Value.agg #[.int .i64 0, .int .i64 0, .int .i64 0, .bool false, .slice none 0 0, .slice none 0 0, .int .i64 0]); (with_reducible refine (hmay_v hc _ (VM.nil _) (by omega)).mono ?_); rintro e1 w1 ⟨rfl, ⟨xm, rfl⟩⟩) | (go_at_call 42; (with_reducible refine (hsame_v hq _ (VM.nil _) (VM.nil _)).mono ?_); rintro e1 w1 ⟨rfl, ⟨xz, rfl⟩⟩))
  go_returns
  exact ⟨rfl, (by repeat' (first | exact Plus.refl _ | refine Plus.alloc ?_ _ | refine Plus.plus ?_ _ | refine Plus.drew ?_ | refine Plus.drewN ?_ _))⟩
theorem cnum_b {g : Bool} {A C : Option Addr} {n c d : Nat} {xs : List Nat} (w : World) (hb : Bg.Arg w A xs n c) (hv : Vld w (Value.agg #[.int .i64 4, .int .i64 0, .int .i64 0, .bool g, .slice A n c, .slice C 0 d, .int .i64 0]) (Value.agg #[.int .i64 4, .int .i64 0, .int .i64 0, .bool g, .slice A n c, .slice C 0 d, .int .i64 0])) : Calls Tryz.prog 16 #[Value.agg #[.int .i64 4, .int .i64 0, .int .i64 0, .bool g, .slice A n c, .slice C 0 d, .int .i64 0]] w (NcB g xs n w) := numeric_big w (Lib.hid hv) (Lib.hid hb)
theorem cbig_t {D : Option Addr} {us : List Nat} {m k : Nat} {z s : Int} {pb : Bool} {vs : List Nat} (hz : Hid (bgU us = ⟨z, s⟩)) (hN : Hid (Bg.Nm z pb vs)) (hl : us.length ≤ 4096) (w : World) (h : Ar .u16 65536 w D us m k) :
    Calls Tryz.prog 18 #[Value.agg #[.int .i64 5, .int .i64 0, .int .i64 0, .bool false, .slice none 0 0, .slice D m k, .int .i64 0]] w (BgP pb vs s w) := cbig_v (x := .text us) hz hN w (nv_text h hl) (nv_text h hl).vld
theorem rbig_s' {g : Bool} {A C : Option Addr} {xs : List Nat} {n c m d : Nat} (h : SelfL xs) (w : World) (ha : Bg.Arg w A xs n c) (hb : Bg.Arg w C xs m d) :
    Calls Tryz.prog 22 #[.agg #[.bool g, .slice A n c], .agg #[.bool g, .slice C m d]] w fun e w' => e = .returned (.bool true) ∧ Plus w w' := rbig_s h w (Lib.hid ha) (Lib.hid hb)
set_option maxRecDepth 100000 in
set_option maxHeartbeats 4000000 in
theorem cm_big {g : Bool} {A C : Option Addr} {n c d : Nat} {xs : List Nat} {z : Int} {ts : List Nat} {m4 : Nat} (w : World) (hL : Hid (Lai w)) (hf : Hid (fewB 0 n = true)) (hn : Hid (NV w (Value.agg #[.int .i64 4, .int .i64 0, .int .i64 0, .bool g, .slice A n c, .slice C 0 d, .int .i64 0]) (.big z))) (hv : Hid (Vld w (Value.agg #[.int .i64 4, .int .i64 0, .int .i64 0, .bool g, .slice A n c, .slice C 0 d, .int .i64 0]) (Value.agg #[.int .i64 4, .int .i64 0, .int .i64 0, .bool g, .slice A n c, .slice C 0 d, .int .i64 0]))) (hbg : Hid (Bg.Arg w A xs n c)) (hVM : Hid (VM w A xs n c C [] 0 d)) (hnn : n ≤ 40) (ht : Hid (txtJ (.big z) = ⟨ts, 0⟩ ∧ m4 = ts.length)) (h4 : m4 ≤ 4096) (hl4 : ts.length ≤ 4096) (hg : Hid (bigJ (.big z) = ⟨z, 0⟩)) (hN : Hid (Bg.Nm z g xs)) (hg2 : Hid (bgU ts = ⟨z, 0⟩)) (hmv : Hid (mayV 4 0 0 g xs [] 0 = true)) (hE : SelfL xs) : Calls Tryz.prog 7 #[Value.agg #[.int .i64 4, .int .i64 0, .int .i64 0, .bool g, .slice A n c, .slice C 0 d, .int .i64 0]] w fun e w' => e = .returned (.bool true) ∧ Plus w w' := by
  go_enter Tryz.func7, Tryz.ntmps7
  go_wp2_with (first | (go_at_call 10; (with_reducible refine (first_c _ (hL.out.plus (by repeat' (first | exact Plus.refl _ | refine Plus.alloc ?_ _ | refine Plus.plus ?_ _ | refine Plus.drew ?_ | refine Plus.drewN ?_ _)))).mono ?_); rintro e w1 ⟨rfl, ⟨xf, rfl⟩⟩) | (go_at_call_of 11 (Value.agg #[.int .i64 4, .int .i64 0, .int .i64 0, .bool g, .slice A n c, .slice C 0 d, .int .i64 0]); (with_reducible refine (few_v hf _).mono ?_); rintro e w1 ⟨rfl, ⟨xw, rfl⟩⟩) | (go_at_call_of 16 (Value.agg #[.int .i64 4, .int .i64 0, .int .i64 0, .bool g, .slice A n c, .slice C 0 d, .int .i64 0]); (with_reducible refine (cnum_b _ (hbg.out.plus (by repeat' (first | exact Plus.refl _ | refine Plus.alloc ?_ _ | refine Plus.plus ?_ _ | refine Plus.drew ?_ | refine Plus.drewN ?_ _))) (hv.out.plus (by repeat' (first | exact Plus.refl _ | refine Plus.alloc ?_ _ | refine Plus.plus ?_ _ | refine Plus.drew ?_ | refine Plus.drewN ?_ _)))).mono ?_); rintro e1 w1 ⟨N1, nk, rfl, hNn, ⟨xn, rfl⟩⟩; have HN1 := Lib.hid hNn; clear hNn) | (go_at_call_of 23 (Value.agg #[.int .i64 4, .int .i64 0, .int .i64 0, .bool g, .slice A n c, .slice C 0 d, .int .i64 0]); (with_reducible refine (ctext_v ht _ (hL.out.plus (by repeat' (first | exact Plus.refl _ | refine Plus.alloc ?_ _ | refine Plus.plus ?_ _ | refine Plus.drew ?_ | refine Plus.drewN ?_ _))) (hn.out.plus (by repeat' (first | exact Plus.refl _ | refine Plus.alloc ?_ _ | refine Plus.plus ?_ _ | refine Plus.drew ?_ | refine Plus.drewN ?_ _))) (hv.out.plus (by repeat' (first | exact Plus.refl _ | refine Plus.alloc ?_ _ | refine Plus.plus ?_ _ | refine Plus.drew ?_ | refine Plus.drewN ?_ _)))).mono ?_); rintro e w1 ⟨D, Dk, rfl, Dh, ⟨Dx, rfl⟩⟩; have HD := Lib.hid Dh; clear Dh) | (go_at_call_of 18 (Value.agg #[.int .i64 4, .int .i64 0, .int .i64 0, .bool g, .slice A n c, .slice C 0 d, .int .i64 0]); (with_reducible refine (cbig_v hg hN _ (hn.out.plus (by repeat' (first | exact Plus.refl _ | refine Plus.alloc ?_ _ | refine Plus.plus ?_ _ | refine Plus.drew ?_ | refine Plus.drewN ?_ _))) (hv.out.plus (by repeat' (first | exact Plus.refl _ | refine Plus.alloc ?_ _ | refine Plus.plus ?_ _ | refine Plus.drew ?_ | refine Plus.drewN ?_ _)))).mono ?_); rintro e1 w1 ⟨B1, b1, rfl, hB, ⟨xb, rfl⟩⟩; have HB := Lib.hid hB; clear hB) | (go_at_call_of 41 (Value.agg #[.int .i64 4, .int .i64 0, .int .i64 0, .bool g, .slice A n c, .slice C 0 d, .int .i64 0]); (with_reducible refine (hmay_v hmv _ (hVM.out.plus (by repeat' (first | exact Plus.refl _ | refine Plus.alloc ?_ _ | refine Plus.plus ?_ _ | refine Plus.drew ?_ | refine Plus.drewN ?_ _))) (by omega)).mono ?_); rintro e1 w1 ⟨rfl, ⟨xv, rfl⟩⟩) | (go_at_call_of 41 (Value.agg #[.int .i64 4, .int .i64 0, .int .i64 0, .bool g, .slice N1 n nk, .slice none 0 0, .int .i64 0]); (with_reducible refine (hmay_v hmv _ ⟨ar_arg (HN1.out.plus (by repeat' (first | exact Plus.refl _ | refine Plus.alloc ?_ _ | refine Plus.plus ?_ _ | refine Plus.drew ?_ | refine Plus.drewN ?_ _))), Ar.nil _ _ _ _ (by omega) _⟩ (by omega)).mono ?_); rintro e1 w1 ⟨rfl, ⟨xv2, rfl⟩⟩) | (go_at_call 36; (with_reducible refine (cstr_y _ (HD.out.plus (by repeat' (first | exact Plus.refl _ | refine Plus.alloc ?_ _ | refine Plus.plus ?_ _ | refine Plus.drew ?_ | refine Plus.drewN ?_ _))) h4).mono ?_); rintro e1 w1 ⟨G, Gk, rfl, hG, ⟨xg, rfl⟩⟩; have HG := Lib.hid hG; clear hG) | (go_at_call_of 18 (Value.agg #[.int .i64 5, .int .i64 0, .int .i64 0, .bool false, .slice none 0 0, .slice G m4 Gk, .int .i64 0]); (with_reducible refine (cbig_t hg2 hN hl4 _ (HG.out.plus (by repeat' (first | exact Plus.refl _ | refine Plus.alloc ?_ _ | refine Plus.plus ?_ _ | refine Plus.drew ?_ | refine Plus.drewN ?_ _)))).mono ?_); rintro e1 w1 ⟨B2, b2, rfl, hB2, ⟨xb2, rfl⟩⟩; have HB2 := Lib.hid hB2; clear hB2) | (go_at_call 22; (with_reducible refine (rbig_s' hE _ (HB2.out.plus (by repeat' (first | exact Plus.refl _ | refine Plus.alloc ?_ _ | refine Plus.plus ?_ _ | refine Plus.drew ?_ | refine Plus.drewN ?_ _))) (hbg.out.plus (by repeat' (first | exact Plus.refl _ | refine Plus.alloc ?_ _ | refine Plus.plus ?_ _ | refine Plus.drew ?_ | refine Plus.drewN ?_ _)))).mono ?_); rintro e1 w1 ⟨rfl, ⟨xr, rfl⟩⟩))
  go_returns
  exact ⟨rfl, (by repeat' (first | exact Plus.refl _ | refine Plus.alloc ?_ _ | refine Plus.plus ?_ _ | refine Plus.drew ?_ | refine Plus.drewN ?_ _))⟩
theorem dec_eq : ∀ n : Nat, Bg.dec n = Lib.decDigits n := by
  intro n
  induction n using Nat.strongRecOn with
  | ind n ih =>
    by_cases h : n < 10
    · rw [Bg.dec_small h, Lib.decDigits_one h]
    · rw [Bg.dec_big h, Lib.decDigits, dif_neg h, ih (n / 10) (by omega)]
theorem bgD_dd {m : Nat} (h : m < Bg.B ^ 8) : bgD (Lib.decDigits m) = ⟨m, 0⟩ := by
  have hw := wz_dd m
  unfold wzT at hw
  unfold bgD
  by_cases h0 : Lib.trimLeftS (Lib.decDigits m) [48] = []
  · rw [if_pos h0] at hw ⊢
    by_cases hm : 0 < m
    · obtain ⟨c, r, e, hc⟩ := dd_head m hm
      rw [e] at hw
      injection hw with hw _
      subst hw
      exact absurd rfl hc
    · obtain rfl : m = 0 := by omega
      rfl
  · rw [if_neg h0] at hw ⊢
    rw [hw]
    have hr := Bg.rd_txt (n := (m : Int)) (by simpa using h)
    have ht : Bg.txt (m : Int) = Lib.decDigits m := by
      unfold Bg.txt
      rw [if_neg (by omega), ← dec_eq]
      simp
    rw [ht] at hr
    have e1 : Bg.parE (Lib.decDigits m) = 0 := by unfold Bg.parE; rw [hr]
    have e2 : Bg.parI (Lib.decDigits m) = m := by unfold Bg.parI; rw [hr]
    rw [e1, e2, if_pos rfl]
theorem bgU_u8 {l : List UInt8} (h : ∀ x ∈ l, x.toNat < 128) : bgU (u8n l) = bgT (Lib.trimS l blankS) := by
  unfold bgU
  rw [u8n_low h, if_pos rfl, u8n_back]
theorem bgT_txt {z : Int} (h : z.natAbs < Bg.B ^ 8) : bgU (u8n (Bg.txt z)) = ⟨z, 0⟩ := by
  have hd := dd_dig z.natAbs
  unfold Bg.txt
  rw [dec_eq]
  by_cases hz : z < 0
  · rw [if_pos hz, bgU_u8 (fun x hx => by
      rcases List.mem_cons.1 hx with rfl | hx
      · decide
      · have := hd x hx; omega)]
    rw [trim_none _ _ (fun x hx => by
      rcases List.mem_cons.1 hx with rfl | hx
      · decide
      · exact (dig_in (hd x hx)).2)]
    have hp : Lib.hasPrefix (45 :: Lib.decDigits z.natAbs) [45] = true := by simp [Lib.hasPrefix]
    have hu : unsT (45 :: Lib.decDigits z.natAbs) = Lib.decDigits z.natAbs := by
      unfold unsT
      rw [hp, if_pos rfl]
      simp [Lib.trimPrefix, Lib.hasPrefix]
    unfold bgT
    rw [if_neg (by simp), hu, hp, if_pos ⟨dd_ne _, trim_all _ _ fun x hx => (dig_in (hd x hx)).1⟩, bgD_dd h, if_pos rfl]
    simp only
    congr 1
    omega
  · rw [if_neg hz, bgU_u8 (fun x hx => by have := hd x hx; omega), trim_none _ _ (fun x hx => (dig_in (hd x hx)).2)]
    obtain ⟨hu, hp⟩ := uns_dig hd
    unfold bgT
    rw [if_neg (dd_ne _), hu, hp, if_pos ⟨dd_ne _, trim_all _ _ fun x hx => (dig_in (hd x hx)).1⟩, bgD_dd h]
    simp
    omega
theorem nm0 : Bg.Nm 0 false [] := by
  have hB : (0 : Int).natAbs < Bg.B ^ 8 := by rw [Bg.B_eq]; decide
  have h := Bg.Nm.mk' hB
  obtain ⟨h1, h2⟩ := nm_zero h
  rw [h1, h2] at h
  exact h
theorem bgU_lt (us : List Nat) : (bgU us).z.natAbs < Bg.B ^ 8 ∧ ((bgU us).s ≠ 0 → (bgU us).z = 0) := by
  have hB : 0 < Bg.B ^ 8 := by rw [Bg.B_eq]; decide
  unfold bgU
  split
  · unfold bgT
    split
    · exact ⟨by simpa using hB, fun h => absurd rfl h⟩
    · split
      · have h := bgD_lt (unsT (Lib.trimS (us.map Nat.toUInt8) blankS))
        have h2 : (bgD (unsT (Lib.trimS (us.map Nat.toUInt8) blankS))).s ≠ 0 → (bgD (unsT (Lib.trimS (us.map Nat.toUInt8) blankS))).z = 0 := by
          unfold bgD
          split
          · intro e; exact absurd rfl e
          · split
            · intro e; exact absurd rfl e
            · intro _; rfl
        simp only
        split
        · exact ⟨by omega, fun e => by rw [h2 e]; rfl⟩
        · exact ⟨h, h2⟩
      · split
        · exact ⟨by simpa using hB, fun _ => rfl⟩
        · exact ⟨by simpa using hB, fun _ => rfl⟩
  · exact ⟨by simpa using hB, fun _ => rfl⟩
theorem bigJ_lt {x : JV} (h : okJ x) : (bigJ x).z.natAbs < Bg.B ^ 8 ∧ ((bigJ x).s ≠ 0 → (bigJ x).z = 0) := by
  have hB : 1 < Bg.B ^ 8 := by rw [Bg.B_eq]; decide
  cases x with
  | text us => exact bgU_lt us
  | big z => exact ⟨h, fun e => absurd rfl e⟩
  | bool b => exact ⟨by cases b <;> (show Int.natAbs _ < _; simp only [bigJ, bit]; generalize Bg.B ^ 8 = y at hB; simp; omega), fun e => absurd rfl e⟩
  | undef => exact ⟨by show (0 : Int).natAbs < _; generalize Bg.B ^ 8 = y at hB; simp; omega, fun _ => rfl⟩
  | null => exact ⟨by show (0 : Int).natAbs < _; generalize Bg.B ^ 8 = y at hB; simp; omega, fun _ => rfl⟩
  | num p q => exact ⟨by show (0 : Int).natAbs < _; generalize Bg.B ^ 8 = y at hB; simp; omega, fun _ => rfl⟩
  | obj r => exact ⟨by show (0 : Int).natAbs < _; generalize Bg.B ^ 8 = y at hB; simp; omega, fun _ => rfl⟩
theorem jv_k4 {p q : Int} {g : Bool} {xs us : List Nat} {r : Int} (h : mayV 4 p q g xs us r = true) : p = 0 ∧ q = 0 ∧ Bg.mayL g xs = true ∧ us = [] ∧ r = 0 := by
  rcases mayV_cases h with ⟨h, _⟩ | ⟨h, _⟩ | ⟨h, _⟩ | ⟨_, h⟩ | ⟨h, _⟩ | ⟨h, _⟩
  · omega
  · omega
  · omega
  · exact h
  · omega
  · omega
theorem jv_nb {k p q : Int} {g : Bool} {xs us : List Nat} {r : Int} (h : k ≠ 4) : ∀ z, jv k p q g xs us r ≠ .big z := by
  intro z
  unfold jv
  split
  · (try rw [if_neg h])
    repeat' split
    all_goals simp_all
  · simp
theorem txtJ_s (x : JV) : (txtJ x).s = 0 ∨ (txtJ x = ⟨[], 3⟩ ∧ (numJ x).s ≠ 0 ∧ (bigJ x).s ≠ 0) := by
  cases x with
  | obj r => exact .inr ⟨rfl, by show (3 : Int) ≠ 0; decide, by show (3 : Int) ≠ 0; decide⟩
  | _ => exact .inl rfl
theorem may_w {k p q : Int} {g : Bool} {A C : Option Addr} {xs us : List Nat} {n c m d : Nat} {r : Int} (w : World) (hL : Lai w) (h : VM w A xs n c C us m d) : Calls Tryz.prog 7 #[Value.agg #[.int .i64 k, .int .i64 p, .int .i64 q, .bool g, .slice A n c, .slice C m d, .int .i64 r]] w fun e w' => e = .returned (.bool true) ∧ Plus w w' := by
  by_cases f : fewB m n = true
  · obtain ⟨u, hn, hv⟩ := nrm k p q g A C xs us n c m d r w h (by have := few_of f; omega)
    have hz0 : mayV 0 0 0 false [] [] 0 = true := by decide
    have hq0 : sameV 0 0 0 false [] [] 0 0 0 0 false [] [] 0 = true := by decide
    by_cases k4 : k = 4
    · subst k4
      by_cases hm : mayV 4 p q g xs us r = true
      · obtain ⟨rfl, rfl, hb, rfl, rfl⟩ := jv_k4 hm
        have hm0 : m = 0 := h.s.len
        subst hm0
        have hbg := arg_ar h.b (by have := few_of f; omega)
        have hNV : NV w (Value.agg #[.int .i64 4, .int .i64 0, .int .i64 0, .bool g, .slice A n c, .slice C 0 d, .int .i64 0]) (.big (Bg.bigI g xs)) := ⟨g, A, C, xs, n, c, d, rfl, h.s.max, hb, rfl, hbg⟩
        have hlt := bigI_lt (g := g) hbg.lim.1
        obtain ⟨e1, e2, _⟩ := Bg.may_yes hbg.lim.1 hb
        have hN : Bg.Nm (Bg.bigI g xs) g xs := ⟨e2.symm, e1.symm, hlt⟩
        have hl : (u8n (Bg.txt (Bg.bigI g xs))).length ≤ 4096 := by have := txt_len hlt; simp [u8n]; omega
        exact cm_big w (Lib.hid hL) (Lib.hid f) (Lib.hid hNV) (Lib.hid hNV.vld) (Lib.hid hbg) (Lib.hid h) (few_of f).2 (Lib.hid ⟨rfl, rfl⟩) hl hl (Lib.hid rfl) (Lib.hid hN) (Lib.hid (bgT_txt hlt)) (Lib.hid hm) (selfL xs)
      · have hj : jv 4 p q g xs us r = .undef := by unfold jv; rw [if_neg hm]
        rw [hj] at hn
        have hmn : mayV 3 2 0 false [] [] 0 = true := by decide
        exact cm_B4 w (Lib.hid hL) (Lib.hid f) (Lib.hid hn) (Lib.hid hv) (Lib.hid rfl) (fun _ e => by cases e) (Lib.hid hmn) (Lib.hid ⟨rfl, rfl⟩) (Lib.hid rfl) (Lib.hid nm0) (by decide) (Lib.hid h) (few_of f).2 (Lib.hid (by simpa using hm))
    · have hnb := jv_nb (p := p) (q := q) (g := g) (xs := xs) (us := us) (r := r) k4
      have hk : (k != 4) = true := by simp [k4]
      have hok := hn.ok
      have hJV := numJ_V hok
      have hBl := bigJ_lt hok
      have hT := txtJ_s (jv k p q g xs us r)
      generalize jv k p q g xs us r = x at hn hnb hJV hBl hT
      obtain ⟨a, b, s, hJ⟩ : ∃ a b s, numJ x = ⟨a, b, s⟩ := ⟨_, _, _, rfl⟩
      obtain ⟨ts, sg, ht⟩ : ∃ ts sg, txtJ x = ⟨ts, sg⟩ := ⟨_, _, rfl⟩
      obtain ⟨z, s2, hg⟩ : ∃ z s2, bigJ x = ⟨z, s2⟩ := ⟨_, _, rfl⟩
      rw [hJ, hg, ht] at hT
      rw [hJ] at hJV
      rw [hg] at hBl
      simp only at hT hJV hBl
      have hN := Bg.Nm.mk' hBl.1
      have hc : mayV 3 a b false [] [] 0 = true := by unfold mayV; simp [mayB_isV hJV]
      by_cases h1 : s = 0
      · subst h1
        rcases hT with hT | ⟨_, hT, _⟩
        · subst hT
          by_cases h2 : s2 = 0
          · subst h2
            exact cm_A w (Lib.hid hL) (Lib.hid f) (Lib.hid hn) (Lib.hid hv) (Lib.hid hJ) hnb (Lib.hid hc) (Lib.hid ⟨ht, rfl⟩) (Lib.hid hg) (Lib.hid hN) hk
          · obtain rfl := hBl.2 h2
            exact cm_B w (Lib.hid hL) (Lib.hid f) (Lib.hid hn) (Lib.hid hv) (Lib.hid hJ) hnb (Lib.hid hc) (Lib.hid ⟨ht, rfl⟩) (Lib.hid hg) (Lib.hid nm0) (by simp [h2]) hk
        · exact absurd rfl hT
      · have hs : (s != 0) = true := by simp [h1]
        rcases hT with hT | ⟨hT, _, hT2⟩
        · subst hT
          by_cases h2 : s2 = 0
          · subst h2
            exact cm_C w (Lib.hid hL) (Lib.hid f) (Lib.hid hn) (Lib.hid hv) (Lib.hid hJ) hnb hs (Lib.hid hz0) (Lib.hid hq0) (Lib.hid ⟨ht, rfl⟩) (Lib.hid hg) (Lib.hid hN) hk
          · obtain rfl := hBl.2 h2
            exact cm_D w (Lib.hid hL) (Lib.hid f) (Lib.hid hn) (Lib.hid hv) (Lib.hid hJ) hnb hs (Lib.hid hz0) (Lib.hid hq0) (Lib.hid ⟨ht, rfl⟩) (Lib.hid hg) (Lib.hid nm0) (by simp [h2]) hk
        · injection hT with t1 t2
          subst t1 t2
          obtain rfl := hBl.2 hT2
          exact cm_E w (Lib.hid hL) (Lib.hid f) (Lib.hid hn) (Lib.hid hv) (Lib.hid hJ) hnb hs (Lib.hid hz0) (Lib.hid hq0) (Lib.hid ⟨ht, rfl⟩) (Lib.hid hg) (Lib.hid nm0) (by simp [hT2]) hk
  · exact cm_f w (Lib.hid hL) (Lib.hid (by simpa using f))
end Go.Proofs.YtmlfcmmgoiigkaaGreatDoor
