/- The walk of BigTurns: the sum fits. -/
import Derived.Test.YthaokkmbghgopaaL6d
namespace Go.Proofs.Ythaokkmbghgopaa
open Go.RowKit


set_option maxRecDepth 100000 in
set_option maxHeartbeats 16000000 in
theorem turns_zy (an : Bool) (A : Option Addr) (xs : List Nat) (n c : Nat) (bn : Bool) (C : Option Addr) (ys : List Nat) (m d : Nat) (a b s t : Int) (o2 b1 b2 : Bool) (u1 u2 : List Nat) (b3 : Bool) (u3 : List Nat) (b6 b7 b8 : Bool) (u6 u7 u8 : List Nat) (w : World) (ha : Hid (Arg w A xs n c)) (hb : Hid (Arg w C ys m d)) (ga : Hid (bigI an xs = a)) (gb : Hid (bigI bn ys = b)) (f1 : Hid (decide (n ≤ 40) = true)) (f2 : Hid (decide (m ≤ 40) = true))
    (h1 : Hid (AddN a b s true b1 u1)) (h1' : Hid (AddN b a s true b1 u1)) (g1 : Hid (bigI b1 u1 = s)) (s1 : Hid (SameN s s true)) (h2 : Hid (MulN a b t o2 b2 u2)) (h2' : Hid (MulN b a t o2 b2 u2)) (g2 : Hid (bigI b2 u2 = t)) (s2 : Hid (SameN t t true)) (h3 : Hid (SubN s b a true b3 u3)) (g3 : Hid (bigI b3 u3 = a)) (s3 : Hid (SameN a a true)) (h5 : Hid (DivN a b 0 4 b6 u6)) (h6 : Hid (RemN a b 0 4 b7 u7)) (h8 : Hid (OfN 0 0 b8 u8)) (g8 : Hid (bigI b8 u8 = 0)) (s8 : Hid (SameN b 0 true)) :
    Calls Try.prog 6 #[.agg #[.bool an, .slice A n c], .agg #[.bool bn, .slice C m d]] w fun e w' => e = .returned (.bool true) ∧ Plus w w' := by
  go_enter Try.func6, Try.ntmps6
  go_wp2_with fail
  refine (first_c _).mono ?_
  rintro e w1 ⟨rfl, ⟨y0, rfl⟩⟩
  go_wp2_with fail
  refine (few_c f1 _).mono ?_
  rintro e w1 ⟨rfl, ⟨y1, rfl⟩⟩
  go_wp2_with fail
  refine (few_c f2 _).mono ?_
  rintro e w1 ⟨rfl, ⟨y2, rfl⟩⟩
  go_wp2_with fail
  refine (add_n ga gb h1 _ (ha.out.plus (by repeat' (first | exact Plus.refl _ | refine Plus.alloc ?_ _ | refine Plus.plus ?_ _ | refine Plus.drew ?_ | refine Plus.drewN ?_ _))) (hb.out.plus (by repeat' (first | exact Plus.refl _ | refine Plus.alloc ?_ _ | refine Plus.plus ?_ _ | refine Plus.drew ?_ | refine Plus.drewN ?_ _)))).mono ?_
  rintro e w1 ⟨A1, c1, rfl, a1, ⟨x1, rfl⟩⟩
  replace a1 := Lib.hid a1
  go_wp2_with fail
  refine (add_n gb ga h1' _ (hb.out.plus (by repeat' (first | exact Plus.refl _ | refine Plus.alloc ?_ _ | refine Plus.plus ?_ _ | refine Plus.drew ?_ | refine Plus.drewN ?_ _))) (ha.out.plus (by repeat' (first | exact Plus.refl _ | refine Plus.alloc ?_ _ | refine Plus.plus ?_ _ | refine Plus.drew ?_ | refine Plus.drewN ?_ _)))).mono ?_
  rintro e w1 ⟨A2, c2, rfl, a2, ⟨x2, rfl⟩⟩
  replace a2 := Lib.hid a2
  go_wp2_with fail
  refine (mul_n ga gb h2 _ (ha.out.plus (by repeat' (first | exact Plus.refl _ | refine Plus.alloc ?_ _ | refine Plus.plus ?_ _ | refine Plus.drew ?_ | refine Plus.drewN ?_ _))) (hb.out.plus (by repeat' (first | exact Plus.refl _ | refine Plus.alloc ?_ _ | refine Plus.plus ?_ _ | refine Plus.drew ?_ | refine Plus.drewN ?_ _)))).mono ?_
  rintro e w1 ⟨A3, c3, rfl, a3, ⟨x3, rfl⟩⟩
  replace a3 := Lib.hid a3
  go_wp2_with fail
  refine (mul_n gb ga h2' _ (hb.out.plus (by repeat' (first | exact Plus.refl _ | refine Plus.alloc ?_ _ | refine Plus.plus ?_ _ | refine Plus.drew ?_ | refine Plus.drewN ?_ _))) (ha.out.plus (by repeat' (first | exact Plus.refl _ | refine Plus.alloc ?_ _ | refine Plus.plus ?_ _ | refine Plus.drew ?_ | refine Plus.drewN ?_ _)))).mono ?_
  rintro e w1 ⟨A4, c4, rfl, a4, ⟨x4, rfl⟩⟩
  replace a4 := Lib.hid a4
  go_wp2_with fail
  refine (same_m g1 g1 s1 _ (a1.out.plus (by repeat' (first | exact Plus.refl _ | refine Plus.alloc ?_ _ | refine Plus.plus ?_ _ | refine Plus.drew ?_ | refine Plus.drewN ?_ _))) (a2.out.plus (by repeat' (first | exact Plus.refl _ | refine Plus.alloc ?_ _ | refine Plus.plus ?_ _ | refine Plus.drew ?_ | refine Plus.drewN ?_ _)))).mono ?_
  rintro e w1 ⟨rfl, ⟨y3, rfl⟩⟩
  go_wp2_with fail
  refine (same_m g2 g2 s2 _ (a3.out.plus (by repeat' (first | exact Plus.refl _ | refine Plus.alloc ?_ _ | refine Plus.plus ?_ _ | refine Plus.drew ?_ | refine Plus.drewN ?_ _))) (a4.out.plus (by repeat' (first | exact Plus.refl _ | refine Plus.alloc ?_ _ | refine Plus.plus ?_ _ | refine Plus.drew ?_ | refine Plus.drewN ?_ _)))).mono ?_
  rintro e w1 ⟨rfl, ⟨y4, rfl⟩⟩
  go_wp2_with fail
  refine (sub_n g1 gb h3 _ (a1.out.plus (by repeat' (first | exact Plus.refl _ | refine Plus.alloc ?_ _ | refine Plus.plus ?_ _ | refine Plus.drew ?_ | refine Plus.drewN ?_ _))) (hb.out.plus (by repeat' (first | exact Plus.refl _ | refine Plus.alloc ?_ _ | refine Plus.plus ?_ _ | refine Plus.drew ?_ | refine Plus.drewN ?_ _)))).mono ?_
  rintro e w1 ⟨A5, c5, rfl, a5, ⟨x5, rfl⟩⟩
  replace a5 := Lib.hid a5
  go_wp2_with fail
  refine (same_m g3 ga s3 _ (a5.out.plus (by repeat' (first | exact Plus.refl _ | refine Plus.alloc ?_ _ | refine Plus.plus ?_ _ | refine Plus.drew ?_ | refine Plus.drewN ?_ _))) (ha.out.plus (by repeat' (first | exact Plus.refl _ | refine Plus.alloc ?_ _ | refine Plus.plus ?_ _ | refine Plus.drew ?_ | refine Plus.drewN ?_ _)))).mono ?_
  rintro e w1 ⟨rfl, ⟨y5, rfl⟩⟩
  go_wp2_with fail
  refine (div_n ga gb h5 _ (ha.out.plus (by repeat' (first | exact Plus.refl _ | refine Plus.alloc ?_ _ | refine Plus.plus ?_ _ | refine Plus.drew ?_ | refine Plus.drewN ?_ _))) (hb.out.plus (by repeat' (first | exact Plus.refl _ | refine Plus.alloc ?_ _ | refine Plus.plus ?_ _ | refine Plus.drew ?_ | refine Plus.drewN ?_ _)))).mono ?_
  rintro e w1 ⟨A6, c6, rfl, a6, ⟨x6, rfl⟩⟩
  replace a6 := Lib.hid a6
  go_wp2_with fail
  refine (rem_n ga gb h6 _ (ha.out.plus (by repeat' (first | exact Plus.refl _ | refine Plus.alloc ?_ _ | refine Plus.plus ?_ _ | refine Plus.drew ?_ | refine Plus.drewN ?_ _))) (hb.out.plus (by repeat' (first | exact Plus.refl _ | refine Plus.alloc ?_ _ | refine Plus.plus ?_ _ | refine Plus.drew ?_ | refine Plus.drewN ?_ _)))).mono ?_
  rintro e w1 ⟨A7, c7, rfl, a7, ⟨x7, rfl⟩⟩
  replace a7 := Lib.hid a7
  go_upto_region 18 with fail
  refine wp_region_noPanic ?_
  refine wp_region_held_drew (S := (fun w' => w'.cell? ⟨w.heap.size + 1, 0, none⟩ = some (.bool bn) ∧ w'.cell? ⟨w.heap.size + 1, 1, none⟩ = some (.slice C m d))) (by kernel_rfl) (by (refine ⟨?_, ?_⟩ <;> simp [go_sem])) (fun hHeld => ?_)
  refine wpAnyH_ready (rs := [0]) (by kernel_rfl) (by simp) ?_
  refine AllReadyH.cons (o := { dst := some 112, op := Go.Op.call { callee := Go.Callee.value (Go.Operand.func 14), args := #[], argTypes := #[] }, type := 4, pos := "law.go:100", after := #[], guard := none }) rfl (fun K hK => ?_) AllReadyH.nil
  go_simp
  (with_reducible refine (first_c _).mono ?_); rintro e w1 ⟨rfl, ⟨z0, rfl⟩⟩
  go_wp2_with fail
  refine hK.out _ _ (by (try dsimp only); (refine ⟨?_, ?_⟩ <;> simp [go_sem])) (fun hHeld1 => ?_)
  clear hK K hHeld
  try simp only [Act.put, List.setIfInBounds_toArray, List.set_cons_zero, List.set_cons_succ]
  refine wpAnyH_take (i := 1) (oi := { dst := some 113, op := Go.Op.move (Go.Operand.tmp 112), type := 4, pos := "law.go:100", after := #[{ on := 0, ground := Go.Ground.data }, { on := 0, ground := Go.Ground.chain }], guard := none }) (v := ?v18_1) rfl (by kernel_rfl) (by kernel_rfl) (by kernel_rfl) (fun _ _ _ h => h) (Or.inl ⟨by rfl, ?hy18_1⟩) hHeld1 ?_
  case hy18_1 => (intro w hSw; (try dsimp only at hSw); go_simp; first | done | with_reducible rfl)
  try simp only [Act.put, List.setIfInBounds_toArray, List.set_cons_zero, List.set_cons_succ]
  refine wpAnyH_take (i := 2) (oi := { dst := some 114, op := Go.Op.move (Go.Operand.tmp 16), type := 31, pos := "law.go:100", after := #[{ on := 1, ground := Go.Ground.guard }], guard := some (1, true) }) (v := ?v18_2) rfl (by kernel_rfl) (by kernel_rfl) (by kernel_rfl) (fun _ _ _ h => h) (Or.inl ⟨by rfl, ?hy18_2⟩) hHeld1 ?_
  case hy18_2 => (intro w hSw; (try dsimp only at hSw); go_simp; first | done | with_reducible rfl)
  try simp only [Act.put, List.setIfInBounds_toArray, List.set_cons_zero, List.set_cons_succ]
  refine wpAnyH_take (i := 3) (oi := { dst := some 115, op := Go.Op.move (Go.Operand.tmp 18), type := 31, pos := "law.go:100", after := #[{ on := 1, ground := Go.Ground.guard }], guard := some (1, true) }) (v := ?v18_3) rfl (by kernel_rfl) (by kernel_rfl) (by kernel_rfl) (fun _ _ _ h => h) (Or.inl ⟨by rfl, ?hy18_3⟩) hHeld1 ?_
  case hy18_3 => (intro w hSw; (try dsimp only at hSw); go_simp; first | done | with_reducible rfl)
  try simp only [Act.put, List.setIfInBounds_toArray, List.set_cons_zero, List.set_cons_succ]
  refine wpAnyH_take (i := 4) (oi := { dst := some 116, op := Go.Op.binOp Go.BinOp.eql 31 (Go.Operand.tmp 114) (Go.Operand.tmp 115) 31, type := 4, pos := "law.go:100", after := #[{ on := 2, ground := Go.Ground.data }, { on := 3, ground := Go.Ground.data }, { on := 1, ground := Go.Ground.guard }], guard := some (1, true) }) (v := ?v18_4) rfl (by kernel_rfl) (by kernel_rfl) (by kernel_rfl) (fun _ _ _ h => h) (Or.inl ⟨by rfl, ?hy18_4⟩) hHeld1 ?_
  case hy18_4 => (intro w hSw; (try dsimp only at hSw); go_simp; first | done | with_reducible rfl)
  try simp only [Act.put, List.setIfInBounds_toArray, List.set_cons_zero, List.set_cons_succ]
  refine wpAnyH_take (i := 5) (oi := { dst := some 117, op := Go.Op.pick (Go.Operand.tmp 113) (Go.Operand.tmp 116) (Go.Operand.const (Go.Value.bool false)), type := 4, pos := "law.go:100", after := #[{ on := 1, ground := Go.Ground.data }, { on := 4, ground := Go.Ground.data }], guard := none }) (v := ?v18_5) rfl (by kernel_rfl) (by kernel_rfl) (by kernel_rfl) (fun _ _ _ h => h) (Or.inl ⟨by rfl, ?hy18_5⟩) hHeld1 ?_
  case hy18_5 => (intro w hSw; (try dsimp only at hSw); go_simp; first | done | with_reducible rfl)
  try simp only [Act.put, List.setIfInBounds_toArray, List.set_cons_zero, List.set_cons_succ]
  refine wpAnyH_take (i := 6) (oi := { dst := some 118, op := Go.Op.move (Go.Operand.tmp 117), type := 4, pos := "law.go:100", after := #[{ on := 5, ground := Go.Ground.data }, { on := 1, ground := Go.Ground.chain }], guard := none }) (v := ?v18_6) rfl (by kernel_rfl) (by kernel_rfl) (by kernel_rfl) (fun _ _ _ h => h) (Or.inl ⟨by rfl, ?hy18_6⟩) hHeld1 ?_
  case hy18_6 => (intro w hSw; (try dsimp only at hSw); go_simp; first | done | with_reducible rfl)
  try simp only [Act.put, List.setIfInBounds_toArray, List.set_cons_zero, List.set_cons_succ]
  refine wpAnyH_take (i := 7) (oi := { dst := some 119, op := Go.Op.load 24 (Go.Operand.tmp 3), type := 24, pos := "law.go:100", after := #[{ on := 6, ground := Go.Ground.guard }], guard := some (6, true) }) (v := ?v18_7) rfl (by kernel_rfl) (by kernel_rfl) (by kernel_rfl) (fun _ _ _ h => h) (Or.inl ⟨by rfl, ?hy18_7⟩) hHeld1 ?_
  case hy18_7 => (intro w hSw; (try dsimp only at hSw); go_simp; first | done | with_reducible rfl)
  try simp only [Act.put, List.setIfInBounds_toArray, List.set_cons_zero, List.set_cons_succ]
  refine wpAnyH_ready (rs := [8]) (by kernel_rfl) (by simp) ?_
  refine AllReadyH.cons (o := { dst := some 120, op := Go.Op.call { callee := Go.Callee.value (Go.Operand.func 44), args := #[Go.Operand.const (Go.Value.int Go.IntKind.i64 0)], argTypes := #[3] }, type := 24, pos := "law.go:100", after := #[{ on := 6, ground := Go.Ground.chain }, { on := 6, ground := Go.Ground.guard }], guard := some (6, true) }) rfl (fun K hK => ?_) AllReadyH.nil
  go_simp
  (with_reducible refine (of_n h8 _).mono ?_); rintro e w1 ⟨A8, c8, rfl, a8, ⟨x8, rfl⟩⟩; (try simp only [plus_drew] at a8); replace a8 := Lib.hid a8
  go_wp2_with fail
  refine hK.out _ _ (by (try dsimp only); (refine ⟨?_, ?_⟩ <;> simp [go_sem])) (fun hHeld2 => ?_)
  clear hK K hHeld1
  try simp only [Act.put, List.setIfInBounds_toArray, List.set_cons_zero, List.set_cons_succ]
  refine wpAnyH_ready (rs := [9]) (by kernel_rfl) (by simp) ?_
  refine AllReadyH.cons (o := { dst := some 121, op := Go.Op.call { callee := Go.Callee.value (Go.Operand.func 30), args := #[Go.Operand.tmp 119, Go.Operand.tmp 120], argTypes := #[24, 24] }, type := 4, pos := "law.go:100", after := #[{ on := 7, ground := Go.Ground.data }, { on := 8, ground := Go.Ground.data }, { on := 8, ground := Go.Ground.chain }, { on := 6, ground := Go.Ground.guard }], guard := some (6, true) }) rfl (fun K hK => ?_) AllReadyH.nil
  go_simp
  (with_reducible refine (same_m gb g8 s8 _ (hb.out.plus (by repeat' (first | exact Plus.refl _ | refine Plus.alloc ?_ _ | refine Plus.plus ?_ _ | refine Plus.drew ?_ | refine Plus.drewN ?_ _))) (a8.out.plus (by repeat' (first | exact Plus.refl _ | refine Plus.alloc ?_ _ | refine Plus.plus ?_ _ | refine Plus.drew ?_ | refine Plus.drewN ?_ _)))).mono ?_); rintro e w1 ⟨rfl, ⟨z1, rfl⟩⟩
  go_wp2_with fail
  refine hK.out _ _ (by (try dsimp only); (refine ⟨?_, ?_⟩ <;> simp [go_sem])) (fun hHeld3 => ?_)
  clear hK K hHeld2
  try simp only [Act.put, List.setIfInBounds_toArray, List.set_cons_zero, List.set_cons_succ]
  refine wpAnyH_take (i := 10) (oi := { dst := some 122, op := Go.Op.pick (Go.Operand.tmp 118) (Go.Operand.tmp 121) (Go.Operand.const (Go.Value.bool false)), type := 4, pos := "law.go:100", after := #[{ on := 6, ground := Go.Ground.data }, { on := 9, ground := Go.Ground.data }], guard := none }) (v := ?v18_10) rfl (by kernel_rfl) (by kernel_rfl) (by kernel_rfl) (fun _ _ _ h => h) (Or.inl ⟨by rfl, ?hy18_10⟩) hHeld3 ?_
  case hy18_10 => (intro w hSw; (try dsimp only at hSw); go_simp; first | done | with_reducible rfl)
  try simp only [Act.put, List.setIfInBounds_toArray, List.set_cons_zero, List.set_cons_succ]
  refine wpAnyH_take (i := 11) (oi := { dst := some 4, op := Go.Op.assign (Go.Operand.tmp 122), type := 4, pos := "law.go:100", after := #[{ on := 10, ground := Go.Ground.data }, { on := 9, ground := Go.Ground.chain }, { on := 0, ground := Go.Ground.phase }, { on := 1, ground := Go.Ground.phase }, { on := 2, ground := Go.Ground.phase }, { on := 3, ground := Go.Ground.phase }, { on := 4, ground := Go.Ground.phase }, { on := 5, ground := Go.Ground.phase }, { on := 6, ground := Go.Ground.phase }, { on := 7, ground := Go.Ground.phase }, { on := 8, ground := Go.Ground.phase }, { on := 9, ground := Go.Ground.phase }, { on := 10, ground := Go.Ground.phase }], guard := none }) (v := ?v18_11) rfl (by kernel_rfl) (by kernel_rfl) (by kernel_rfl) (fun _ _ _ h => h) (Or.inl ⟨by rfl, ?hy18_11⟩) hHeld3 ?_
  case hy18_11 => (intro w hSw; (try dsimp only at hSw); go_simp; first | done | with_reducible rfl)
  try simp only [Act.put, List.setIfInBounds_toArray, List.set_cons_zero, List.set_cons_succ]
  refine wpAnyH_done (by kernel_rfl) ?_ _
  refine NoPanic.normal ?_
  go_wp2_with fail
  go_ret
  exact ⟨rfl, (by repeat' (first | exact Plus.refl _ | refine Plus.alloc ?_ _ | refine Plus.plus ?_ _ | refine Plus.drew ?_ | refine Plus.drewN ?_ _))⟩

set_option maxRecDepth 100000 in
set_option maxHeartbeats 16000000 in
theorem turns_rny (an : Bool) (A : Option Addr) (xs : List Nat) (n c : Nat) (bn : Bool) (C : Option Addr) (ys : List Nat) (m d : Nat) (a b s t : Int) (o2 b1 b2 : Bool) (u1 u2 : List Nat) (b3 : Bool) (u3 : List Nat) (q r p : Int) (b6 b8 b9 : Bool) (u6 u7 u8 u9 : List Nat) (x : Int) (b10 : Bool) (u10 : List Nat) (b11 : Bool) (u11 : List Nat) (y : Int) (b12 : Bool) (u12 : List Nat) (w : World) (ha : Hid (Arg w A xs n c)) (hb : Hid (Arg w C ys m d)) (ga : Hid (bigI an xs = a)) (gb : Hid (bigI bn ys = b)) (f1 : Hid (decide (n ≤ 40) = true)) (f2 : Hid (decide (m ≤ 40) = true))
    (h1 : Hid (AddN a b s true b1 u1)) (h1' : Hid (AddN b a s true b1 u1)) (g1 : Hid (bigI b1 u1 = s)) (s1 : Hid (SameN s s true)) (h2 : Hid (MulN a b t o2 b2 u2)) (h2' : Hid (MulN b a t o2 b2 u2)) (g2 : Hid (bigI b2 u2 = t)) (s2 : Hid (SameN t t true)) (h3 : Hid (SubN s b a true b3 u3)) (g3 : Hid (bigI b3 u3 = a)) (s3 : Hid (SameN a a true)) (h5 : Hid (DivN a b q 0 b6 u6)) (g6 : Hid (bigI b6 u6 = q)) (h6 : Hid (RemN a b r 0 true u7)) (g7 : Hid (bigI true u7 = r)) (h7 : Hid (MulN q b p true b8 u8)) (g8 : Hid (bigI b8 u8 = p)) (h8 : Hid (AddN p r a true b9 u9)) (g9 : Hid (bigI b9 u9 = a)) (s9 : Hid (SameN a a true)) (h10 : Hid (NegN r x b10 u10)) (g10 : Hid (bigI b10 u10 = x)) (h11 : Hid (OfN 0 0 b11 u11)) (g11 : Hid (bigI b11 u11 = 0)) (k11 : Hid (CmpN b 0 (-1))) (h12 : Hid (NegN b y b12 u12)) (g12 : Hid (bigI b12 u12 = y)) (k9 : Hid (CmpN x y (-1))) :
    Calls Try.prog 6 #[.agg #[.bool an, .slice A n c], .agg #[.bool bn, .slice C m d]] w fun e w' => e = .returned (.bool true) ∧ Plus w w' := by
  go_enter Try.func6, Try.ntmps6
  go_wp2_with fail
  refine (first_c _).mono ?_
  rintro e w1 ⟨rfl, ⟨y0, rfl⟩⟩
  go_wp2_with fail
  refine (few_c f1 _).mono ?_
  rintro e w1 ⟨rfl, ⟨y1, rfl⟩⟩
  go_wp2_with fail
  refine (few_c f2 _).mono ?_
  rintro e w1 ⟨rfl, ⟨y2, rfl⟩⟩
  go_wp2_with fail
  refine (add_n ga gb h1 _ (ha.out.plus (by repeat' (first | exact Plus.refl _ | refine Plus.alloc ?_ _ | refine Plus.plus ?_ _ | refine Plus.drew ?_ | refine Plus.drewN ?_ _))) (hb.out.plus (by repeat' (first | exact Plus.refl _ | refine Plus.alloc ?_ _ | refine Plus.plus ?_ _ | refine Plus.drew ?_ | refine Plus.drewN ?_ _)))).mono ?_
  rintro e w1 ⟨A1, c1, rfl, a1, ⟨x1, rfl⟩⟩
  replace a1 := Lib.hid a1
  go_wp2_with fail
  refine (add_n gb ga h1' _ (hb.out.plus (by repeat' (first | exact Plus.refl _ | refine Plus.alloc ?_ _ | refine Plus.plus ?_ _ | refine Plus.drew ?_ | refine Plus.drewN ?_ _))) (ha.out.plus (by repeat' (first | exact Plus.refl _ | refine Plus.alloc ?_ _ | refine Plus.plus ?_ _ | refine Plus.drew ?_ | refine Plus.drewN ?_ _)))).mono ?_
  rintro e w1 ⟨A2, c2, rfl, a2, ⟨x2, rfl⟩⟩
  replace a2 := Lib.hid a2
  go_wp2_with fail
  refine (mul_n ga gb h2 _ (ha.out.plus (by repeat' (first | exact Plus.refl _ | refine Plus.alloc ?_ _ | refine Plus.plus ?_ _ | refine Plus.drew ?_ | refine Plus.drewN ?_ _))) (hb.out.plus (by repeat' (first | exact Plus.refl _ | refine Plus.alloc ?_ _ | refine Plus.plus ?_ _ | refine Plus.drew ?_ | refine Plus.drewN ?_ _)))).mono ?_
  rintro e w1 ⟨A3, c3, rfl, a3, ⟨x3, rfl⟩⟩
  replace a3 := Lib.hid a3
  go_wp2_with fail
  refine (mul_n gb ga h2' _ (hb.out.plus (by repeat' (first | exact Plus.refl _ | refine Plus.alloc ?_ _ | refine Plus.plus ?_ _ | refine Plus.drew ?_ | refine Plus.drewN ?_ _))) (ha.out.plus (by repeat' (first | exact Plus.refl _ | refine Plus.alloc ?_ _ | refine Plus.plus ?_ _ | refine Plus.drew ?_ | refine Plus.drewN ?_ _)))).mono ?_
  rintro e w1 ⟨A4, c4, rfl, a4, ⟨x4, rfl⟩⟩
  replace a4 := Lib.hid a4
  go_wp2_with fail
  refine (same_m g1 g1 s1 _ (a1.out.plus (by repeat' (first | exact Plus.refl _ | refine Plus.alloc ?_ _ | refine Plus.plus ?_ _ | refine Plus.drew ?_ | refine Plus.drewN ?_ _))) (a2.out.plus (by repeat' (first | exact Plus.refl _ | refine Plus.alloc ?_ _ | refine Plus.plus ?_ _ | refine Plus.drew ?_ | refine Plus.drewN ?_ _)))).mono ?_
  rintro e w1 ⟨rfl, ⟨y3, rfl⟩⟩
  go_wp2_with fail
  refine (same_m g2 g2 s2 _ (a3.out.plus (by repeat' (first | exact Plus.refl _ | refine Plus.alloc ?_ _ | refine Plus.plus ?_ _ | refine Plus.drew ?_ | refine Plus.drewN ?_ _))) (a4.out.plus (by repeat' (first | exact Plus.refl _ | refine Plus.alloc ?_ _ | refine Plus.plus ?_ _ | refine Plus.drew ?_ | refine Plus.drewN ?_ _)))).mono ?_
  rintro e w1 ⟨rfl, ⟨y4, rfl⟩⟩
  go_wp2_with fail
  refine (sub_n g1 gb h3 _ (a1.out.plus (by repeat' (first | exact Plus.refl _ | refine Plus.alloc ?_ _ | refine Plus.plus ?_ _ | refine Plus.drew ?_ | refine Plus.drewN ?_ _))) (hb.out.plus (by repeat' (first | exact Plus.refl _ | refine Plus.alloc ?_ _ | refine Plus.plus ?_ _ | refine Plus.drew ?_ | refine Plus.drewN ?_ _)))).mono ?_
  rintro e w1 ⟨A5, c5, rfl, a5, ⟨x5, rfl⟩⟩
  replace a5 := Lib.hid a5
  go_wp2_with fail
  refine (same_m g3 ga s3 _ (a5.out.plus (by repeat' (first | exact Plus.refl _ | refine Plus.alloc ?_ _ | refine Plus.plus ?_ _ | refine Plus.drew ?_ | refine Plus.drewN ?_ _))) (ha.out.plus (by repeat' (first | exact Plus.refl _ | refine Plus.alloc ?_ _ | refine Plus.plus ?_ _ | refine Plus.drew ?_ | refine Plus.drewN ?_ _)))).mono ?_
  rintro e w1 ⟨rfl, ⟨y5, rfl⟩⟩
  go_wp2_with fail
  refine (div_n ga gb h5 _ (ha.out.plus (by repeat' (first | exact Plus.refl _ | refine Plus.alloc ?_ _ | refine Plus.plus ?_ _ | refine Plus.drew ?_ | refine Plus.drewN ?_ _))) (hb.out.plus (by repeat' (first | exact Plus.refl _ | refine Plus.alloc ?_ _ | refine Plus.plus ?_ _ | refine Plus.drew ?_ | refine Plus.drewN ?_ _)))).mono ?_
  rintro e w1 ⟨A6, c6, rfl, a6, ⟨x6, rfl⟩⟩
  replace a6 := Lib.hid a6
  go_wp2_with fail
  refine (rem_n ga gb h6 _ (ha.out.plus (by repeat' (first | exact Plus.refl _ | refine Plus.alloc ?_ _ | refine Plus.plus ?_ _ | refine Plus.drew ?_ | refine Plus.drewN ?_ _))) (hb.out.plus (by repeat' (first | exact Plus.refl _ | refine Plus.alloc ?_ _ | refine Plus.plus ?_ _ | refine Plus.drew ?_ | refine Plus.drewN ?_ _)))).mono ?_
  rintro e w1 ⟨A7, c7, rfl, a7, ⟨x7, rfl⟩⟩
  replace a7 := Lib.hid a7
  go_wp2_with fail
  refine (mul_n g6 gb h7 _ (a6.out.plus (by repeat' (first | exact Plus.refl _ | refine Plus.alloc ?_ _ | refine Plus.plus ?_ _ | refine Plus.drew ?_ | refine Plus.drewN ?_ _))) (hb.out.plus (by repeat' (first | exact Plus.refl _ | refine Plus.alloc ?_ _ | refine Plus.plus ?_ _ | refine Plus.drew ?_ | refine Plus.drewN ?_ _)))).mono ?_
  rintro e w1 ⟨A8, c8, rfl, a8, ⟨x8, rfl⟩⟩
  replace a8 := Lib.hid a8
  go_wp2_with fail
  refine (add_n g8 g7 h8 _ (a8.out.plus (by repeat' (first | exact Plus.refl _ | refine Plus.alloc ?_ _ | refine Plus.plus ?_ _ | refine Plus.drew ?_ | refine Plus.drewN ?_ _))) (a7.out.plus (by repeat' (first | exact Plus.refl _ | refine Plus.alloc ?_ _ | refine Plus.plus ?_ _ | refine Plus.drew ?_ | refine Plus.drewN ?_ _)))).mono ?_
  rintro e w1 ⟨A9, c9, rfl, a9, ⟨x9, rfl⟩⟩
  replace a9 := Lib.hid a9
  go_upto_region 21 with fail
  go_region
  · go_wp2_with fail
    refine (neg_n g7 h10 _ (a7.out.plus (by repeat' (first | exact Plus.refl _ | refine Plus.alloc ?_ _ | refine Plus.plus ?_ _ | refine Plus.drew ?_ | refine Plus.drewN ?_ _)))).mono ?_
    rintro e w1 ⟨A10, c10, rfl, a10, ⟨x10, rfl⟩⟩
    (try simp only [plus_drew] at a10); replace a10 := Lib.hid a10
    go_upto_region 24 with fail
    refine wp_region_noPanic ?_
    refine wp_region_held_drew (S := (fun w' => w'.cell? ⟨w.heap.size + 1 + 1 + y0.blocks.length + y1.blocks.length + y2.blocks.length + x1.blocks.length + 1 + x2.blocks.length + 1 + x3.blocks.length + 1 + x4.blocks.length + 1 + y3.blocks.length + y4.blocks.length + x5.blocks.length + 1 + y5.blocks.length + x6.blocks.length + 1 + x7.blocks.length + 1 + x8.blocks.length + 1 + x9.blocks.length + 1 + 1, 0, none⟩ = some (.bool bn) ∧ w'.cell? ⟨w.heap.size + 1 + 1 + y0.blocks.length + y1.blocks.length + y2.blocks.length + x1.blocks.length + 1 + x2.blocks.length + 1 + x3.blocks.length + 1 + x4.blocks.length + 1 + y3.blocks.length + y4.blocks.length + x5.blocks.length + 1 + y5.blocks.length + x6.blocks.length + 1 + x7.blocks.length + 1 + x8.blocks.length + 1 + x9.blocks.length + 1 + 1, 1, none⟩ = some (.slice C m d))) (by kernel_rfl) (by (refine ⟨?_, ?_⟩ <;> simp [go_sem])) (fun hHeld => ?_)
    refine wpAnyH_take (i := 0) (oi := { dst := some 141, op := Go.Op.load 24 (Go.Operand.tmp 24), type := 24, pos := "law.go:108", after := #[], guard := none }) (v := ?v24_0) rfl (by kernel_rfl) (by kernel_rfl) (by kernel_rfl) (fun _ _ _ h => h) (Or.inl ⟨by rfl, ?hy24_0⟩) hHeld ?_
    case hy24_0 => (intro w hSw; (try dsimp only at hSw); go_simp; first | done | with_reducible rfl)
    try simp only [Act.put, List.setIfInBounds_toArray, List.set_cons_zero, List.set_cons_succ]
    refine wpAnyH_ready (rs := [1]) (by kernel_rfl) (by simp) ?_
    refine AllReadyH.cons (o := { dst := some 142, op := Go.Op.call { callee := Go.Callee.value (Go.Operand.func 44), args := #[Go.Operand.const (Go.Value.int Go.IntKind.i64 0)], argTypes := #[3] }, type := 24, pos := "law.go:108", after := #[], guard := none }) rfl (fun K hK => ?_) AllReadyH.nil
    go_simp
    (with_reducible refine (of_n h11 _).mono ?_); rintro e w1 ⟨A11, c11, rfl, a11, ⟨x11, rfl⟩⟩; (try simp only [plus_drew] at a11); replace a11 := Lib.hid a11
    go_wp2_with fail
    refine hK.out _ _ (by (try dsimp only); (refine ⟨?_, ?_⟩ <;> simp [go_sem])) (fun hHeld1 => ?_)
    clear hK K hHeld
    try simp only [Act.put, List.setIfInBounds_toArray, List.set_cons_zero, List.set_cons_succ]
    refine wpAnyH_ready (rs := [2]) (by kernel_rfl) (by simp) ?_
    refine AllReadyH.cons (o := { dst := some 143, op := Go.Op.call { callee := Go.Callee.value (Go.Operand.func 28), args := #[Go.Operand.tmp 141, Go.Operand.tmp 142], argTypes := #[24, 24] }, type := 3, pos := "law.go:108", after := #[{ on := 0, ground := Go.Ground.data }, { on := 1, ground := Go.Ground.data }, { on := 1, ground := Go.Ground.chain }], guard := none }) rfl (fun K hK => ?_) AllReadyH.nil
    go_simp
    (with_reducible refine (cmp_m gb g11 k11 _ (hb.out.plus (by repeat' (first | exact Plus.refl _ | refine Plus.alloc ?_ _ | refine Plus.plus ?_ _ | refine Plus.drew ?_ | refine Plus.drewN ?_ _))) (a11.out.plus (by repeat' (first | exact Plus.refl _ | refine Plus.alloc ?_ _ | refine Plus.plus ?_ _ | refine Plus.drew ?_ | refine Plus.drewN ?_ _)))).mono ?_); rintro e w1 ⟨rfl, ⟨z1, rfl⟩⟩
    go_wp2_with fail
    refine hK.out _ _ (by (try dsimp only); (refine ⟨?_, ?_⟩ <;> simp [go_sem])) (fun hHeld2 => ?_)
    clear hK K hHeld1
    try simp only [Act.put, List.setIfInBounds_toArray, List.set_cons_zero, List.set_cons_succ]
    refine wpAnyH_take (i := 3) (oi := { dst := some 144, op := Go.Op.binOp Go.BinOp.lss 3 (Go.Operand.tmp 143) (Go.Operand.const (Go.Value.int Go.IntKind.i64 0)) 3, type := 4, pos := "law.go:108", after := #[{ on := 2, ground := Go.Ground.data }], guard := none }) (v := ?v24_3) rfl (by kernel_rfl) (by kernel_rfl) (by kernel_rfl) (fun _ _ _ h => h) (Or.inl ⟨by rfl, ?hy24_3⟩) hHeld2 ?_
    case hy24_3 => (intro w hSw; (try dsimp only at hSw); go_simp; first | done | with_reducible rfl)
    try simp only [Act.put, List.setIfInBounds_toArray, List.set_cons_zero, List.set_cons_succ]
    refine wpAnyH_done (by kernel_rfl) ?_ _
    refine NoPanic.normal ?_
    go_wp2_with fail
    refine (neg_n gb h12 _ (hb.out.plus (by repeat' (first | exact Plus.refl _ | refine Plus.alloc ?_ _ | refine Plus.plus ?_ _ | refine Plus.drew ?_ | refine Plus.drewN ?_ _)))).mono ?_
    rintro e w1 ⟨A12, c12, rfl, a12, ⟨x12, rfl⟩⟩
    (try simp only [plus_drew] at a12); replace a12 := Lib.hid a12
    go_wp2_with fail
    refine (first_c _).mono ?_
    rintro e w1 ⟨rfl, ⟨z2, rfl⟩⟩
    go_wp2_with fail
    refine (same_m g9 ga s9 _ (a9.out.plus (by repeat' (first | exact Plus.refl _ | refine Plus.alloc ?_ _ | refine Plus.plus ?_ _ | refine Plus.drew ?_ | refine Plus.drewN ?_ _))) (ha.out.plus (by repeat' (first | exact Plus.refl _ | refine Plus.alloc ?_ _ | refine Plus.plus ?_ _ | refine Plus.drew ?_ | refine Plus.drewN ?_ _)))).mono ?_
    rintro e w1 ⟨rfl, ⟨z3, rfl⟩⟩
    have a10' := Lib.hid (Arg.b1 (p1 := .cells #[.bool b10, .slice A10 u10.length c10] 24) (p2 := .cells #[.bool b12, .slice A12 u12.length c12] 24) a10.out (isBox.mk _ _ _ _ _) (isBox.mk _ _ _ _ _))
    clear a10
    have a12' := Lib.hid (Arg.b4 (p1 := .cells #[.bool b10, .slice A10 u10.length c10] 24) (p2 := .cells #[.bool b12, .slice A12 u12.length c12] 24) a12.out (isBox.mk _ _ _ _ _) (isBox.mk _ _ _ _ _))
    clear a12
    go_wp2_with fail
    refine (cmp_m g10 g12 k9 _ (a10'.out.plus (by repeat' (first | exact Plus.refl _ | refine Plus.alloc ?_ _ | refine Plus.plus ?_ _ | refine Plus.drew ?_ | refine Plus.drewN ?_ _))) (a12'.out.plus (by repeat' (first | exact Plus.refl _ | refine Plus.alloc ?_ _ | refine Plus.plus ?_ _ | refine Plus.drew ?_ | refine Plus.drewN ?_ _)))).mono ?_
    rintro e w1 ⟨rfl, ⟨z4, rfl⟩⟩
    go_wp2_with fail
    go_ret
    exact ⟨rfl, (by repeat' (first | exact Plus.refl _ | refine Plus.alloc ?_ _ | refine Plus.plus ?_ _ | refine Plus.drew ?_ | refine Plus.drewN ?_ _))⟩
  · go_wp2_with fail
    refine (neg_n g7 h10 _ (a7.out.plus (by repeat' (first | exact Plus.refl _ | refine Plus.alloc ?_ _ | refine Plus.plus ?_ _ | refine Plus.drew ?_ | refine Plus.drewN ?_ _)))).mono ?_
    rintro e w1 ⟨A10, c10, rfl, a10, ⟨x10, rfl⟩⟩
    (try simp only [plus_drew] at a10); replace a10 := Lib.hid a10
    go_upto_region 24 with fail
    refine wp_region_noPanic ?_
    refine wp_region_held_drew (S := (fun w' => w'.cell? ⟨w.heap.size + 1 + 1 + y0.blocks.length + y1.blocks.length + y2.blocks.length + x1.blocks.length + 1 + x2.blocks.length + 1 + x3.blocks.length + 1 + x4.blocks.length + 1 + y3.blocks.length + y4.blocks.length + x5.blocks.length + 1 + y5.blocks.length + x6.blocks.length + 1 + x7.blocks.length + 1 + x8.blocks.length + 1 + x9.blocks.length + 1, 0, none⟩ = some (.bool bn) ∧ w'.cell? ⟨w.heap.size + 1 + 1 + y0.blocks.length + y1.blocks.length + y2.blocks.length + x1.blocks.length + 1 + x2.blocks.length + 1 + x3.blocks.length + 1 + x4.blocks.length + 1 + y3.blocks.length + y4.blocks.length + x5.blocks.length + 1 + y5.blocks.length + x6.blocks.length + 1 + x7.blocks.length + 1 + x8.blocks.length + 1 + x9.blocks.length + 1, 1, none⟩ = some (.slice C m d))) (by kernel_rfl) (by (refine ⟨?_, ?_⟩ <;> simp [go_sem])) (fun hHeld => ?_)
    refine wpAnyH_take (i := 0) (oi := { dst := some 141, op := Go.Op.load 24 (Go.Operand.tmp 24), type := 24, pos := "law.go:108", after := #[], guard := none }) (v := ?v24_0) rfl (by kernel_rfl) (by kernel_rfl) (by kernel_rfl) (fun _ _ _ h => h) (Or.inl ⟨by rfl, ?hy24_0⟩) hHeld ?_
    case hy24_0 => (intro w hSw; (try dsimp only at hSw); go_simp; first | done | with_reducible rfl)
    try simp only [Act.put, List.setIfInBounds_toArray, List.set_cons_zero, List.set_cons_succ]
    refine wpAnyH_ready (rs := [1]) (by kernel_rfl) (by simp) ?_
    refine AllReadyH.cons (o := { dst := some 142, op := Go.Op.call { callee := Go.Callee.value (Go.Operand.func 44), args := #[Go.Operand.const (Go.Value.int Go.IntKind.i64 0)], argTypes := #[3] }, type := 24, pos := "law.go:108", after := #[], guard := none }) rfl (fun K hK => ?_) AllReadyH.nil
    go_simp
    (with_reducible refine (of_n h11 _).mono ?_); rintro e w1 ⟨A11, c11, rfl, a11, ⟨x11, rfl⟩⟩; (try simp only [plus_drew] at a11); replace a11 := Lib.hid a11
    go_wp2_with fail
    refine hK.out _ _ (by (try dsimp only); (refine ⟨?_, ?_⟩ <;> simp [go_sem])) (fun hHeld1 => ?_)
    clear hK K hHeld
    try simp only [Act.put, List.setIfInBounds_toArray, List.set_cons_zero, List.set_cons_succ]
    refine wpAnyH_ready (rs := [2]) (by kernel_rfl) (by simp) ?_
    refine AllReadyH.cons (o := { dst := some 143, op := Go.Op.call { callee := Go.Callee.value (Go.Operand.func 28), args := #[Go.Operand.tmp 141, Go.Operand.tmp 142], argTypes := #[24, 24] }, type := 3, pos := "law.go:108", after := #[{ on := 0, ground := Go.Ground.data }, { on := 1, ground := Go.Ground.data }, { on := 1, ground := Go.Ground.chain }], guard := none }) rfl (fun K hK => ?_) AllReadyH.nil
    go_simp
    (with_reducible refine (cmp_m gb g11 k11 _ (hb.out.plus (by repeat' (first | exact Plus.refl _ | refine Plus.alloc ?_ _ | refine Plus.plus ?_ _ | refine Plus.drew ?_ | refine Plus.drewN ?_ _))) (a11.out.plus (by repeat' (first | exact Plus.refl _ | refine Plus.alloc ?_ _ | refine Plus.plus ?_ _ | refine Plus.drew ?_ | refine Plus.drewN ?_ _)))).mono ?_); rintro e w1 ⟨rfl, ⟨z1, rfl⟩⟩
    go_wp2_with fail
    refine hK.out _ _ (by (try dsimp only); (refine ⟨?_, ?_⟩ <;> simp [go_sem])) (fun hHeld2 => ?_)
    clear hK K hHeld1
    try simp only [Act.put, List.setIfInBounds_toArray, List.set_cons_zero, List.set_cons_succ]
    refine wpAnyH_take (i := 3) (oi := { dst := some 144, op := Go.Op.binOp Go.BinOp.lss 3 (Go.Operand.tmp 143) (Go.Operand.const (Go.Value.int Go.IntKind.i64 0)) 3, type := 4, pos := "law.go:108", after := #[{ on := 2, ground := Go.Ground.data }], guard := none }) (v := ?v24_3) rfl (by kernel_rfl) (by kernel_rfl) (by kernel_rfl) (fun _ _ _ h => h) (Or.inl ⟨by rfl, ?hy24_3⟩) hHeld2 ?_
    case hy24_3 => (intro w hSw; (try dsimp only at hSw); go_simp; first | done | with_reducible rfl)
    try simp only [Act.put, List.setIfInBounds_toArray, List.set_cons_zero, List.set_cons_succ]
    refine wpAnyH_done (by kernel_rfl) ?_ _
    refine NoPanic.normal ?_
    go_wp2_with fail
    refine (neg_n gb h12 _ (hb.out.plus (by repeat' (first | exact Plus.refl _ | refine Plus.alloc ?_ _ | refine Plus.plus ?_ _ | refine Plus.drew ?_ | refine Plus.drewN ?_ _)))).mono ?_
    rintro e w1 ⟨A12, c12, rfl, a12, ⟨x12, rfl⟩⟩
    (try simp only [plus_drew] at a12); replace a12 := Lib.hid a12
    go_wp2_with fail
    refine (first_c _).mono ?_
    rintro e w1 ⟨rfl, ⟨z2, rfl⟩⟩
    go_wp2_with fail
    refine (same_m g9 ga s9 _ (a9.out.plus (by repeat' (first | exact Plus.refl _ | refine Plus.alloc ?_ _ | refine Plus.plus ?_ _ | refine Plus.drew ?_ | refine Plus.drewN ?_ _))) (ha.out.plus (by repeat' (first | exact Plus.refl _ | refine Plus.alloc ?_ _ | refine Plus.plus ?_ _ | refine Plus.drew ?_ | refine Plus.drewN ?_ _)))).mono ?_
    rintro e w1 ⟨rfl, ⟨z3, rfl⟩⟩
    have a10' := Lib.hid (Arg.b1 (p1 := .cells #[.bool b12, .slice A12 u12.length c12] 24) (p2 := .cells #[.bool b10, .slice A10 u10.length c10] 24) a10.out (isBox.mk _ _ _ _ _) (isBox.mk _ _ _ _ _))
    clear a10
    have a12' := Lib.hid (Arg.b4 (p1 := .cells #[.bool b12, .slice A12 u12.length c12] 24) (p2 := .cells #[.bool b10, .slice A10 u10.length c10] 24) a12.out (isBox.mk _ _ _ _ _) (isBox.mk _ _ _ _ _))
    clear a12
    go_wp2_with fail
    refine (cmp_m g10 g12 k9 _ (a10'.out.plus (by repeat' (first | exact Plus.refl _ | refine Plus.alloc ?_ _ | refine Plus.plus ?_ _ | refine Plus.drew ?_ | refine Plus.drewN ?_ _))) (a12'.out.plus (by repeat' (first | exact Plus.refl _ | refine Plus.alloc ?_ _ | refine Plus.plus ?_ _ | refine Plus.drew ?_ | refine Plus.drewN ?_ _)))).mono ?_
    rintro e w1 ⟨rfl, ⟨z4, rfl⟩⟩
    go_wp2_with fail
    go_ret
    exact ⟨rfl, (by repeat' (first | exact Plus.refl _ | refine Plus.alloc ?_ _ | refine Plus.plus ?_ _ | refine Plus.drew ?_ | refine Plus.drewN ?_ _))⟩

set_option maxRecDepth 100000 in
set_option maxHeartbeats 16000000 in
theorem turns_rpy (an : Bool) (A : Option Addr) (xs : List Nat) (n c : Nat) (bn : Bool) (C : Option Addr) (ys : List Nat) (m d : Nat) (a b s t : Int) (o2 b1 b2 : Bool) (u1 u2 : List Nat) (b3 : Bool) (u3 : List Nat) (q r p : Int) (b6 b8 b9 : Bool) (u6 u7 u8 u9 : List Nat) (x : Int) (b10 : Bool) (u10 : List Nat) (b11 : Bool) (u11 : List Nat) (w : World) (ha : Hid (Arg w A xs n c)) (hb : Hid (Arg w C ys m d)) (ga : Hid (bigI an xs = a)) (gb : Hid (bigI bn ys = b)) (f1 : Hid (decide (n ≤ 40) = true)) (f2 : Hid (decide (m ≤ 40) = true))
    (h1 : Hid (AddN a b s true b1 u1)) (h1' : Hid (AddN b a s true b1 u1)) (g1 : Hid (bigI b1 u1 = s)) (s1 : Hid (SameN s s true)) (h2 : Hid (MulN a b t o2 b2 u2)) (h2' : Hid (MulN b a t o2 b2 u2)) (g2 : Hid (bigI b2 u2 = t)) (s2 : Hid (SameN t t true)) (h3 : Hid (SubN s b a true b3 u3)) (g3 : Hid (bigI b3 u3 = a)) (s3 : Hid (SameN a a true)) (h5 : Hid (DivN a b q 0 b6 u6)) (g6 : Hid (bigI b6 u6 = q)) (h6 : Hid (RemN a b r 0 true u7)) (g7 : Hid (bigI true u7 = r)) (h7 : Hid (MulN q b p true b8 u8)) (g8 : Hid (bigI b8 u8 = p)) (h8 : Hid (AddN p r a true b9 u9)) (g9 : Hid (bigI b9 u9 = a)) (s9 : Hid (SameN a a true)) (h10 : Hid (NegN r x b10 u10)) (g10 : Hid (bigI b10 u10 = x)) (h11 : Hid (OfN 0 0 b11 u11)) (g11 : Hid (bigI b11 u11 = 0)) (k11 : Hid (CmpN b 0 (1))) (k9 : Hid (CmpN x b (-1))) :
    Calls Try.prog 6 #[.agg #[.bool an, .slice A n c], .agg #[.bool bn, .slice C m d]] w fun e w' => e = .returned (.bool true) ∧ Plus w w' := by
  go_enter Try.func6, Try.ntmps6
  go_wp2_with fail
  refine (first_c _).mono ?_
  rintro e w1 ⟨rfl, ⟨y0, rfl⟩⟩
  go_wp2_with fail
  refine (few_c f1 _).mono ?_
  rintro e w1 ⟨rfl, ⟨y1, rfl⟩⟩
  go_wp2_with fail
  refine (few_c f2 _).mono ?_
  rintro e w1 ⟨rfl, ⟨y2, rfl⟩⟩
  go_wp2_with fail
  refine (add_n ga gb h1 _ (ha.out.plus (by repeat' (first | exact Plus.refl _ | refine Plus.alloc ?_ _ | refine Plus.plus ?_ _ | refine Plus.drew ?_ | refine Plus.drewN ?_ _))) (hb.out.plus (by repeat' (first | exact Plus.refl _ | refine Plus.alloc ?_ _ | refine Plus.plus ?_ _ | refine Plus.drew ?_ | refine Plus.drewN ?_ _)))).mono ?_
  rintro e w1 ⟨A1, c1, rfl, a1, ⟨x1, rfl⟩⟩
  replace a1 := Lib.hid a1
  go_wp2_with fail
  refine (add_n gb ga h1' _ (hb.out.plus (by repeat' (first | exact Plus.refl _ | refine Plus.alloc ?_ _ | refine Plus.plus ?_ _ | refine Plus.drew ?_ | refine Plus.drewN ?_ _))) (ha.out.plus (by repeat' (first | exact Plus.refl _ | refine Plus.alloc ?_ _ | refine Plus.plus ?_ _ | refine Plus.drew ?_ | refine Plus.drewN ?_ _)))).mono ?_
  rintro e w1 ⟨A2, c2, rfl, a2, ⟨x2, rfl⟩⟩
  replace a2 := Lib.hid a2
  go_wp2_with fail
  refine (mul_n ga gb h2 _ (ha.out.plus (by repeat' (first | exact Plus.refl _ | refine Plus.alloc ?_ _ | refine Plus.plus ?_ _ | refine Plus.drew ?_ | refine Plus.drewN ?_ _))) (hb.out.plus (by repeat' (first | exact Plus.refl _ | refine Plus.alloc ?_ _ | refine Plus.plus ?_ _ | refine Plus.drew ?_ | refine Plus.drewN ?_ _)))).mono ?_
  rintro e w1 ⟨A3, c3, rfl, a3, ⟨x3, rfl⟩⟩
  replace a3 := Lib.hid a3
  go_wp2_with fail
  refine (mul_n gb ga h2' _ (hb.out.plus (by repeat' (first | exact Plus.refl _ | refine Plus.alloc ?_ _ | refine Plus.plus ?_ _ | refine Plus.drew ?_ | refine Plus.drewN ?_ _))) (ha.out.plus (by repeat' (first | exact Plus.refl _ | refine Plus.alloc ?_ _ | refine Plus.plus ?_ _ | refine Plus.drew ?_ | refine Plus.drewN ?_ _)))).mono ?_
  rintro e w1 ⟨A4, c4, rfl, a4, ⟨x4, rfl⟩⟩
  replace a4 := Lib.hid a4
  go_wp2_with fail
  refine (same_m g1 g1 s1 _ (a1.out.plus (by repeat' (first | exact Plus.refl _ | refine Plus.alloc ?_ _ | refine Plus.plus ?_ _ | refine Plus.drew ?_ | refine Plus.drewN ?_ _))) (a2.out.plus (by repeat' (first | exact Plus.refl _ | refine Plus.alloc ?_ _ | refine Plus.plus ?_ _ | refine Plus.drew ?_ | refine Plus.drewN ?_ _)))).mono ?_
  rintro e w1 ⟨rfl, ⟨y3, rfl⟩⟩
  go_wp2_with fail
  refine (same_m g2 g2 s2 _ (a3.out.plus (by repeat' (first | exact Plus.refl _ | refine Plus.alloc ?_ _ | refine Plus.plus ?_ _ | refine Plus.drew ?_ | refine Plus.drewN ?_ _))) (a4.out.plus (by repeat' (first | exact Plus.refl _ | refine Plus.alloc ?_ _ | refine Plus.plus ?_ _ | refine Plus.drew ?_ | refine Plus.drewN ?_ _)))).mono ?_
  rintro e w1 ⟨rfl, ⟨y4, rfl⟩⟩
  go_wp2_with fail
  refine (sub_n g1 gb h3 _ (a1.out.plus (by repeat' (first | exact Plus.refl _ | refine Plus.alloc ?_ _ | refine Plus.plus ?_ _ | refine Plus.drew ?_ | refine Plus.drewN ?_ _))) (hb.out.plus (by repeat' (first | exact Plus.refl _ | refine Plus.alloc ?_ _ | refine Plus.plus ?_ _ | refine Plus.drew ?_ | refine Plus.drewN ?_ _)))).mono ?_
  rintro e w1 ⟨A5, c5, rfl, a5, ⟨x5, rfl⟩⟩
  replace a5 := Lib.hid a5
  go_wp2_with fail
  refine (same_m g3 ga s3 _ (a5.out.plus (by repeat' (first | exact Plus.refl _ | refine Plus.alloc ?_ _ | refine Plus.plus ?_ _ | refine Plus.drew ?_ | refine Plus.drewN ?_ _))) (ha.out.plus (by repeat' (first | exact Plus.refl _ | refine Plus.alloc ?_ _ | refine Plus.plus ?_ _ | refine Plus.drew ?_ | refine Plus.drewN ?_ _)))).mono ?_
  rintro e w1 ⟨rfl, ⟨y5, rfl⟩⟩
  go_wp2_with fail
  refine (div_n ga gb h5 _ (ha.out.plus (by repeat' (first | exact Plus.refl _ | refine Plus.alloc ?_ _ | refine Plus.plus ?_ _ | refine Plus.drew ?_ | refine Plus.drewN ?_ _))) (hb.out.plus (by repeat' (first | exact Plus.refl _ | refine Plus.alloc ?_ _ | refine Plus.plus ?_ _ | refine Plus.drew ?_ | refine Plus.drewN ?_ _)))).mono ?_
  rintro e w1 ⟨A6, c6, rfl, a6, ⟨x6, rfl⟩⟩
  replace a6 := Lib.hid a6
  go_wp2_with fail
  refine (rem_n ga gb h6 _ (ha.out.plus (by repeat' (first | exact Plus.refl _ | refine Plus.alloc ?_ _ | refine Plus.plus ?_ _ | refine Plus.drew ?_ | refine Plus.drewN ?_ _))) (hb.out.plus (by repeat' (first | exact Plus.refl _ | refine Plus.alloc ?_ _ | refine Plus.plus ?_ _ | refine Plus.drew ?_ | refine Plus.drewN ?_ _)))).mono ?_
  rintro e w1 ⟨A7, c7, rfl, a7, ⟨x7, rfl⟩⟩
  replace a7 := Lib.hid a7
  go_wp2_with fail
  refine (mul_n g6 gb h7 _ (a6.out.plus (by repeat' (first | exact Plus.refl _ | refine Plus.alloc ?_ _ | refine Plus.plus ?_ _ | refine Plus.drew ?_ | refine Plus.drewN ?_ _))) (hb.out.plus (by repeat' (first | exact Plus.refl _ | refine Plus.alloc ?_ _ | refine Plus.plus ?_ _ | refine Plus.drew ?_ | refine Plus.drewN ?_ _)))).mono ?_
  rintro e w1 ⟨A8, c8, rfl, a8, ⟨x8, rfl⟩⟩
  replace a8 := Lib.hid a8
  go_wp2_with fail
  refine (add_n g8 g7 h8 _ (a8.out.plus (by repeat' (first | exact Plus.refl _ | refine Plus.alloc ?_ _ | refine Plus.plus ?_ _ | refine Plus.drew ?_ | refine Plus.drewN ?_ _))) (a7.out.plus (by repeat' (first | exact Plus.refl _ | refine Plus.alloc ?_ _ | refine Plus.plus ?_ _ | refine Plus.drew ?_ | refine Plus.drewN ?_ _)))).mono ?_
  rintro e w1 ⟨A9, c9, rfl, a9, ⟨x9, rfl⟩⟩
  replace a9 := Lib.hid a9
  go_upto_region 21 with fail
  go_region
  · go_wp2_with fail
    refine (neg_n g7 h10 _ (a7.out.plus (by repeat' (first | exact Plus.refl _ | refine Plus.alloc ?_ _ | refine Plus.plus ?_ _ | refine Plus.drew ?_ | refine Plus.drewN ?_ _)))).mono ?_
    rintro e w1 ⟨A10, c10, rfl, a10, ⟨x10, rfl⟩⟩
    (try simp only [plus_drew] at a10); replace a10 := Lib.hid a10
    go_upto_region 24 with fail
    refine wp_region_noPanic ?_
    refine wp_region_held_drew (S := (fun w' => w'.cell? ⟨w.heap.size + 1 + 1 + y0.blocks.length + y1.blocks.length + y2.blocks.length + x1.blocks.length + 1 + x2.blocks.length + 1 + x3.blocks.length + 1 + x4.blocks.length + 1 + y3.blocks.length + y4.blocks.length + x5.blocks.length + 1 + y5.blocks.length + x6.blocks.length + 1 + x7.blocks.length + 1 + x8.blocks.length + 1 + x9.blocks.length + 1 + 1, 0, none⟩ = some (.bool bn) ∧ w'.cell? ⟨w.heap.size + 1 + 1 + y0.blocks.length + y1.blocks.length + y2.blocks.length + x1.blocks.length + 1 + x2.blocks.length + 1 + x3.blocks.length + 1 + x4.blocks.length + 1 + y3.blocks.length + y4.blocks.length + x5.blocks.length + 1 + y5.blocks.length + x6.blocks.length + 1 + x7.blocks.length + 1 + x8.blocks.length + 1 + x9.blocks.length + 1 + 1, 1, none⟩ = some (.slice C m d))) (by kernel_rfl) (by (refine ⟨?_, ?_⟩ <;> simp [go_sem])) (fun hHeld => ?_)
    refine wpAnyH_take (i := 0) (oi := { dst := some 141, op := Go.Op.load 24 (Go.Operand.tmp 24), type := 24, pos := "law.go:108", after := #[], guard := none }) (v := ?v24_0) rfl (by kernel_rfl) (by kernel_rfl) (by kernel_rfl) (fun _ _ _ h => h) (Or.inl ⟨by rfl, ?hy24_0⟩) hHeld ?_
    case hy24_0 => (intro w hSw; (try dsimp only at hSw); go_simp; first | done | with_reducible rfl)
    try simp only [Act.put, List.setIfInBounds_toArray, List.set_cons_zero, List.set_cons_succ]
    refine wpAnyH_ready (rs := [1]) (by kernel_rfl) (by simp) ?_
    refine AllReadyH.cons (o := { dst := some 142, op := Go.Op.call { callee := Go.Callee.value (Go.Operand.func 44), args := #[Go.Operand.const (Go.Value.int Go.IntKind.i64 0)], argTypes := #[3] }, type := 24, pos := "law.go:108", after := #[], guard := none }) rfl (fun K hK => ?_) AllReadyH.nil
    go_simp
    (with_reducible refine (of_n h11 _).mono ?_); rintro e w1 ⟨A11, c11, rfl, a11, ⟨x11, rfl⟩⟩; (try simp only [plus_drew] at a11); replace a11 := Lib.hid a11
    go_wp2_with fail
    refine hK.out _ _ (by (try dsimp only); (refine ⟨?_, ?_⟩ <;> simp [go_sem])) (fun hHeld1 => ?_)
    clear hK K hHeld
    try simp only [Act.put, List.setIfInBounds_toArray, List.set_cons_zero, List.set_cons_succ]
    refine wpAnyH_ready (rs := [2]) (by kernel_rfl) (by simp) ?_
    refine AllReadyH.cons (o := { dst := some 143, op := Go.Op.call { callee := Go.Callee.value (Go.Operand.func 28), args := #[Go.Operand.tmp 141, Go.Operand.tmp 142], argTypes := #[24, 24] }, type := 3, pos := "law.go:108", after := #[{ on := 0, ground := Go.Ground.data }, { on := 1, ground := Go.Ground.data }, { on := 1, ground := Go.Ground.chain }], guard := none }) rfl (fun K hK => ?_) AllReadyH.nil
    go_simp
    (with_reducible refine (cmp_m gb g11 k11 _ (hb.out.plus (by repeat' (first | exact Plus.refl _ | refine Plus.alloc ?_ _ | refine Plus.plus ?_ _ | refine Plus.drew ?_ | refine Plus.drewN ?_ _))) (a11.out.plus (by repeat' (first | exact Plus.refl _ | refine Plus.alloc ?_ _ | refine Plus.plus ?_ _ | refine Plus.drew ?_ | refine Plus.drewN ?_ _)))).mono ?_); rintro e w1 ⟨rfl, ⟨z1, rfl⟩⟩
    go_wp2_with fail
    refine hK.out _ _ (by (try dsimp only); (refine ⟨?_, ?_⟩ <;> simp [go_sem])) (fun hHeld2 => ?_)
    clear hK K hHeld1
    try simp only [Act.put, List.setIfInBounds_toArray, List.set_cons_zero, List.set_cons_succ]
    refine wpAnyH_take (i := 3) (oi := { dst := some 144, op := Go.Op.binOp Go.BinOp.lss 3 (Go.Operand.tmp 143) (Go.Operand.const (Go.Value.int Go.IntKind.i64 0)) 3, type := 4, pos := "law.go:108", after := #[{ on := 2, ground := Go.Ground.data }], guard := none }) (v := ?v24_3) rfl (by kernel_rfl) (by kernel_rfl) (by kernel_rfl) (fun _ _ _ h => h) (Or.inl ⟨by rfl, ?hy24_3⟩) hHeld2 ?_
    case hy24_3 => (intro w hSw; (try dsimp only at hSw); go_simp; first | done | with_reducible rfl)
    try simp only [Act.put, List.setIfInBounds_toArray, List.set_cons_zero, List.set_cons_succ]
    refine wpAnyH_done (by kernel_rfl) ?_ _
    refine NoPanic.normal ?_
    go_wp2_with fail
    refine (first_c _).mono ?_
    rintro e w1 ⟨rfl, ⟨z2, rfl⟩⟩
    go_wp2_with fail
    refine (same_m g9 ga s9 _ (a9.out.plus (by repeat' (first | exact Plus.refl _ | refine Plus.alloc ?_ _ | refine Plus.plus ?_ _ | refine Plus.drew ?_ | refine Plus.drewN ?_ _))) (ha.out.plus (by repeat' (first | exact Plus.refl _ | refine Plus.alloc ?_ _ | refine Plus.plus ?_ _ | refine Plus.drew ?_ | refine Plus.drewN ?_ _)))).mono ?_
    rintro e w1 ⟨rfl, ⟨z3, rfl⟩⟩
    have a10' := Lib.hid (Arg.b1 (p1 := .cells #[.bool b10, .slice A10 u10.length c10] 24) (p2 := .cells #[.bool bn, .slice C m d] 24) a10.out (isBox.mk _ _ _ _ _) (isBox.mk _ _ _ _ _))
    clear a10
    go_wp2_with fail
    refine (cmp_m g10 gb k9 _ (a10'.out.plus (by repeat' (first | exact Plus.refl _ | refine Plus.alloc ?_ _ | refine Plus.plus ?_ _ | refine Plus.drew ?_ | refine Plus.drewN ?_ _))) (hb.out.plus (by repeat' (first | exact Plus.refl _ | refine Plus.alloc ?_ _ | refine Plus.plus ?_ _ | refine Plus.drew ?_ | refine Plus.drewN ?_ _)))).mono ?_
    rintro e w1 ⟨rfl, ⟨z4, rfl⟩⟩
    go_wp2_with fail
    go_ret
    exact ⟨rfl, (by repeat' (first | exact Plus.refl _ | refine Plus.alloc ?_ _ | refine Plus.plus ?_ _ | refine Plus.drew ?_ | refine Plus.drewN ?_ _))⟩
  · go_wp2_with fail
    refine (neg_n g7 h10 _ (a7.out.plus (by repeat' (first | exact Plus.refl _ | refine Plus.alloc ?_ _ | refine Plus.plus ?_ _ | refine Plus.drew ?_ | refine Plus.drewN ?_ _)))).mono ?_
    rintro e w1 ⟨A10, c10, rfl, a10, ⟨x10, rfl⟩⟩
    (try simp only [plus_drew] at a10); replace a10 := Lib.hid a10
    go_upto_region 24 with fail
    refine wp_region_noPanic ?_
    refine wp_region_held_drew (S := (fun w' => w'.cell? ⟨w.heap.size + 1 + 1 + y0.blocks.length + y1.blocks.length + y2.blocks.length + x1.blocks.length + 1 + x2.blocks.length + 1 + x3.blocks.length + 1 + x4.blocks.length + 1 + y3.blocks.length + y4.blocks.length + x5.blocks.length + 1 + y5.blocks.length + x6.blocks.length + 1 + x7.blocks.length + 1 + x8.blocks.length + 1 + x9.blocks.length + 1, 0, none⟩ = some (.bool bn) ∧ w'.cell? ⟨w.heap.size + 1 + 1 + y0.blocks.length + y1.blocks.length + y2.blocks.length + x1.blocks.length + 1 + x2.blocks.length + 1 + x3.blocks.length + 1 + x4.blocks.length + 1 + y3.blocks.length + y4.blocks.length + x5.blocks.length + 1 + y5.blocks.length + x6.blocks.length + 1 + x7.blocks.length + 1 + x8.blocks.length + 1 + x9.blocks.length + 1, 1, none⟩ = some (.slice C m d))) (by kernel_rfl) (by (refine ⟨?_, ?_⟩ <;> simp [go_sem])) (fun hHeld => ?_)
    refine wpAnyH_take (i := 0) (oi := { dst := some 141, op := Go.Op.load 24 (Go.Operand.tmp 24), type := 24, pos := "law.go:108", after := #[], guard := none }) (v := ?v24_0) rfl (by kernel_rfl) (by kernel_rfl) (by kernel_rfl) (fun _ _ _ h => h) (Or.inl ⟨by rfl, ?hy24_0⟩) hHeld ?_
    case hy24_0 => (intro w hSw; (try dsimp only at hSw); go_simp; first | done | with_reducible rfl)
    try simp only [Act.put, List.setIfInBounds_toArray, List.set_cons_zero, List.set_cons_succ]
    refine wpAnyH_ready (rs := [1]) (by kernel_rfl) (by simp) ?_
    refine AllReadyH.cons (o := { dst := some 142, op := Go.Op.call { callee := Go.Callee.value (Go.Operand.func 44), args := #[Go.Operand.const (Go.Value.int Go.IntKind.i64 0)], argTypes := #[3] }, type := 24, pos := "law.go:108", after := #[], guard := none }) rfl (fun K hK => ?_) AllReadyH.nil
    go_simp
    (with_reducible refine (of_n h11 _).mono ?_); rintro e w1 ⟨A11, c11, rfl, a11, ⟨x11, rfl⟩⟩; (try simp only [plus_drew] at a11); replace a11 := Lib.hid a11
    go_wp2_with fail
    refine hK.out _ _ (by (try dsimp only); (refine ⟨?_, ?_⟩ <;> simp [go_sem])) (fun hHeld1 => ?_)
    clear hK K hHeld
    try simp only [Act.put, List.setIfInBounds_toArray, List.set_cons_zero, List.set_cons_succ]
    refine wpAnyH_ready (rs := [2]) (by kernel_rfl) (by simp) ?_
    refine AllReadyH.cons (o := { dst := some 143, op := Go.Op.call { callee := Go.Callee.value (Go.Operand.func 28), args := #[Go.Operand.tmp 141, Go.Operand.tmp 142], argTypes := #[24, 24] }, type := 3, pos := "law.go:108", after := #[{ on := 0, ground := Go.Ground.data }, { on := 1, ground := Go.Ground.data }, { on := 1, ground := Go.Ground.chain }], guard := none }) rfl (fun K hK => ?_) AllReadyH.nil
    go_simp
    (with_reducible refine (cmp_m gb g11 k11 _ (hb.out.plus (by repeat' (first | exact Plus.refl _ | refine Plus.alloc ?_ _ | refine Plus.plus ?_ _ | refine Plus.drew ?_ | refine Plus.drewN ?_ _))) (a11.out.plus (by repeat' (first | exact Plus.refl _ | refine Plus.alloc ?_ _ | refine Plus.plus ?_ _ | refine Plus.drew ?_ | refine Plus.drewN ?_ _)))).mono ?_); rintro e w1 ⟨rfl, ⟨z1, rfl⟩⟩
    go_wp2_with fail
    refine hK.out _ _ (by (try dsimp only); (refine ⟨?_, ?_⟩ <;> simp [go_sem])) (fun hHeld2 => ?_)
    clear hK K hHeld1
    try simp only [Act.put, List.setIfInBounds_toArray, List.set_cons_zero, List.set_cons_succ]
    refine wpAnyH_take (i := 3) (oi := { dst := some 144, op := Go.Op.binOp Go.BinOp.lss 3 (Go.Operand.tmp 143) (Go.Operand.const (Go.Value.int Go.IntKind.i64 0)) 3, type := 4, pos := "law.go:108", after := #[{ on := 2, ground := Go.Ground.data }], guard := none }) (v := ?v24_3) rfl (by kernel_rfl) (by kernel_rfl) (by kernel_rfl) (fun _ _ _ h => h) (Or.inl ⟨by rfl, ?hy24_3⟩) hHeld2 ?_
    case hy24_3 => (intro w hSw; (try dsimp only at hSw); go_simp; first | done | with_reducible rfl)
    try simp only [Act.put, List.setIfInBounds_toArray, List.set_cons_zero, List.set_cons_succ]
    refine wpAnyH_done (by kernel_rfl) ?_ _
    refine NoPanic.normal ?_
    go_wp2_with fail
    refine (first_c _).mono ?_
    rintro e w1 ⟨rfl, ⟨z2, rfl⟩⟩
    go_wp2_with fail
    refine (same_m g9 ga s9 _ (a9.out.plus (by repeat' (first | exact Plus.refl _ | refine Plus.alloc ?_ _ | refine Plus.plus ?_ _ | refine Plus.drew ?_ | refine Plus.drewN ?_ _))) (ha.out.plus (by repeat' (first | exact Plus.refl _ | refine Plus.alloc ?_ _ | refine Plus.plus ?_ _ | refine Plus.drew ?_ | refine Plus.drewN ?_ _)))).mono ?_
    rintro e w1 ⟨rfl, ⟨z3, rfl⟩⟩
    have a10' := Lib.hid (Arg.b1 (p1 := .cells #[.bool bn, .slice C m d] 24) (p2 := .cells #[.bool b10, .slice A10 u10.length c10] 24) a10.out (isBox.mk _ _ _ _ _) (isBox.mk _ _ _ _ _))
    clear a10
    go_wp2_with fail
    refine (cmp_m g10 gb k9 _ (a10'.out.plus (by repeat' (first | exact Plus.refl _ | refine Plus.alloc ?_ _ | refine Plus.plus ?_ _ | refine Plus.drew ?_ | refine Plus.drewN ?_ _))) (hb.out.plus (by repeat' (first | exact Plus.refl _ | refine Plus.alloc ?_ _ | refine Plus.plus ?_ _ | refine Plus.drew ?_ | refine Plus.drewN ?_ _)))).mono ?_
    rintro e w1 ⟨rfl, ⟨z4, rfl⟩⟩
    go_wp2_with fail
    go_ret
    exact ⟨rfl, (by repeat' (first | exact Plus.refl _ | refine Plus.alloc ?_ _ | refine Plus.plus ?_ _ | refine Plus.drew ?_ | refine Plus.drewN ?_ _))⟩

set_option maxRecDepth 100000 in
set_option maxHeartbeats 16000000 in
theorem turns_pny (an : Bool) (A : Option Addr) (xs : List Nat) (n c : Nat) (bn : Bool) (C : Option Addr) (ys : List Nat) (m d : Nat) (a b s t : Int) (o2 b1 b2 : Bool) (u1 u2 : List Nat) (b3 : Bool) (u3 : List Nat) (q r p : Int) (b6 b8 b9 : Bool) (u6 u7 u8 u9 : List Nat) (b11 : Bool) (u11 : List Nat) (y : Int) (b12 : Bool) (u12 : List Nat) (w : World) (ha : Hid (Arg w A xs n c)) (hb : Hid (Arg w C ys m d)) (ga : Hid (bigI an xs = a)) (gb : Hid (bigI bn ys = b)) (f1 : Hid (decide (n ≤ 40) = true)) (f2 : Hid (decide (m ≤ 40) = true))
    (h1 : Hid (AddN a b s true b1 u1)) (h1' : Hid (AddN b a s true b1 u1)) (g1 : Hid (bigI b1 u1 = s)) (s1 : Hid (SameN s s true)) (h2 : Hid (MulN a b t o2 b2 u2)) (h2' : Hid (MulN b a t o2 b2 u2)) (g2 : Hid (bigI b2 u2 = t)) (s2 : Hid (SameN t t true)) (h3 : Hid (SubN s b a true b3 u3)) (g3 : Hid (bigI b3 u3 = a)) (s3 : Hid (SameN a a true)) (h5 : Hid (DivN a b q 0 b6 u6)) (g6 : Hid (bigI b6 u6 = q)) (h6 : Hid (RemN a b r 0 false u7)) (g7 : Hid (bigI false u7 = r)) (h7 : Hid (MulN q b p true b8 u8)) (g8 : Hid (bigI b8 u8 = p)) (h8 : Hid (AddN p r a true b9 u9)) (g9 : Hid (bigI b9 u9 = a)) (s9 : Hid (SameN a a true)) (h11 : Hid (OfN 0 0 b11 u11)) (g11 : Hid (bigI b11 u11 = 0)) (k11 : Hid (CmpN b 0 (-1))) (h12 : Hid (NegN b y b12 u12)) (g12 : Hid (bigI b12 u12 = y)) (k9 : Hid (CmpN r y (-1))) :
    Calls Try.prog 6 #[.agg #[.bool an, .slice A n c], .agg #[.bool bn, .slice C m d]] w fun e w' => e = .returned (.bool true) ∧ Plus w w' := by
  go_enter Try.func6, Try.ntmps6
  go_wp2_with fail
  refine (first_c _).mono ?_
  rintro e w1 ⟨rfl, ⟨y0, rfl⟩⟩
  go_wp2_with fail
  refine (few_c f1 _).mono ?_
  rintro e w1 ⟨rfl, ⟨y1, rfl⟩⟩
  go_wp2_with fail
  refine (few_c f2 _).mono ?_
  rintro e w1 ⟨rfl, ⟨y2, rfl⟩⟩
  go_wp2_with fail
  refine (add_n ga gb h1 _ (ha.out.plus (by repeat' (first | exact Plus.refl _ | refine Plus.alloc ?_ _ | refine Plus.plus ?_ _ | refine Plus.drew ?_ | refine Plus.drewN ?_ _))) (hb.out.plus (by repeat' (first | exact Plus.refl _ | refine Plus.alloc ?_ _ | refine Plus.plus ?_ _ | refine Plus.drew ?_ | refine Plus.drewN ?_ _)))).mono ?_
  rintro e w1 ⟨A1, c1, rfl, a1, ⟨x1, rfl⟩⟩
  replace a1 := Lib.hid a1
  go_wp2_with fail
  refine (add_n gb ga h1' _ (hb.out.plus (by repeat' (first | exact Plus.refl _ | refine Plus.alloc ?_ _ | refine Plus.plus ?_ _ | refine Plus.drew ?_ | refine Plus.drewN ?_ _))) (ha.out.plus (by repeat' (first | exact Plus.refl _ | refine Plus.alloc ?_ _ | refine Plus.plus ?_ _ | refine Plus.drew ?_ | refine Plus.drewN ?_ _)))).mono ?_
  rintro e w1 ⟨A2, c2, rfl, a2, ⟨x2, rfl⟩⟩
  replace a2 := Lib.hid a2
  go_wp2_with fail
  refine (mul_n ga gb h2 _ (ha.out.plus (by repeat' (first | exact Plus.refl _ | refine Plus.alloc ?_ _ | refine Plus.plus ?_ _ | refine Plus.drew ?_ | refine Plus.drewN ?_ _))) (hb.out.plus (by repeat' (first | exact Plus.refl _ | refine Plus.alloc ?_ _ | refine Plus.plus ?_ _ | refine Plus.drew ?_ | refine Plus.drewN ?_ _)))).mono ?_
  rintro e w1 ⟨A3, c3, rfl, a3, ⟨x3, rfl⟩⟩
  replace a3 := Lib.hid a3
  go_wp2_with fail
  refine (mul_n gb ga h2' _ (hb.out.plus (by repeat' (first | exact Plus.refl _ | refine Plus.alloc ?_ _ | refine Plus.plus ?_ _ | refine Plus.drew ?_ | refine Plus.drewN ?_ _))) (ha.out.plus (by repeat' (first | exact Plus.refl _ | refine Plus.alloc ?_ _ | refine Plus.plus ?_ _ | refine Plus.drew ?_ | refine Plus.drewN ?_ _)))).mono ?_
  rintro e w1 ⟨A4, c4, rfl, a4, ⟨x4, rfl⟩⟩
  replace a4 := Lib.hid a4
  go_wp2_with fail
  refine (same_m g1 g1 s1 _ (a1.out.plus (by repeat' (first | exact Plus.refl _ | refine Plus.alloc ?_ _ | refine Plus.plus ?_ _ | refine Plus.drew ?_ | refine Plus.drewN ?_ _))) (a2.out.plus (by repeat' (first | exact Plus.refl _ | refine Plus.alloc ?_ _ | refine Plus.plus ?_ _ | refine Plus.drew ?_ | refine Plus.drewN ?_ _)))).mono ?_
  rintro e w1 ⟨rfl, ⟨y3, rfl⟩⟩
  go_wp2_with fail
  refine (same_m g2 g2 s2 _ (a3.out.plus (by repeat' (first | exact Plus.refl _ | refine Plus.alloc ?_ _ | refine Plus.plus ?_ _ | refine Plus.drew ?_ | refine Plus.drewN ?_ _))) (a4.out.plus (by repeat' (first | exact Plus.refl _ | refine Plus.alloc ?_ _ | refine Plus.plus ?_ _ | refine Plus.drew ?_ | refine Plus.drewN ?_ _)))).mono ?_
  rintro e w1 ⟨rfl, ⟨y4, rfl⟩⟩
  go_wp2_with fail
  refine (sub_n g1 gb h3 _ (a1.out.plus (by repeat' (first | exact Plus.refl _ | refine Plus.alloc ?_ _ | refine Plus.plus ?_ _ | refine Plus.drew ?_ | refine Plus.drewN ?_ _))) (hb.out.plus (by repeat' (first | exact Plus.refl _ | refine Plus.alloc ?_ _ | refine Plus.plus ?_ _ | refine Plus.drew ?_ | refine Plus.drewN ?_ _)))).mono ?_
  rintro e w1 ⟨A5, c5, rfl, a5, ⟨x5, rfl⟩⟩
  replace a5 := Lib.hid a5
  go_wp2_with fail
  refine (same_m g3 ga s3 _ (a5.out.plus (by repeat' (first | exact Plus.refl _ | refine Plus.alloc ?_ _ | refine Plus.plus ?_ _ | refine Plus.drew ?_ | refine Plus.drewN ?_ _))) (ha.out.plus (by repeat' (first | exact Plus.refl _ | refine Plus.alloc ?_ _ | refine Plus.plus ?_ _ | refine Plus.drew ?_ | refine Plus.drewN ?_ _)))).mono ?_
  rintro e w1 ⟨rfl, ⟨y5, rfl⟩⟩
  go_wp2_with fail
  refine (div_n ga gb h5 _ (ha.out.plus (by repeat' (first | exact Plus.refl _ | refine Plus.alloc ?_ _ | refine Plus.plus ?_ _ | refine Plus.drew ?_ | refine Plus.drewN ?_ _))) (hb.out.plus (by repeat' (first | exact Plus.refl _ | refine Plus.alloc ?_ _ | refine Plus.plus ?_ _ | refine Plus.drew ?_ | refine Plus.drewN ?_ _)))).mono ?_
  rintro e w1 ⟨A6, c6, rfl, a6, ⟨x6, rfl⟩⟩
  replace a6 := Lib.hid a6
  go_wp2_with fail
  refine (rem_n ga gb h6 _ (ha.out.plus (by repeat' (first | exact Plus.refl _ | refine Plus.alloc ?_ _ | refine Plus.plus ?_ _ | refine Plus.drew ?_ | refine Plus.drewN ?_ _))) (hb.out.plus (by repeat' (first | exact Plus.refl _ | refine Plus.alloc ?_ _ | refine Plus.plus ?_ _ | refine Plus.drew ?_ | refine Plus.drewN ?_ _)))).mono ?_
  rintro e w1 ⟨A7, c7, rfl, a7, ⟨x7, rfl⟩⟩
  replace a7 := Lib.hid a7
  go_wp2_with fail
  refine (mul_n g6 gb h7 _ (a6.out.plus (by repeat' (first | exact Plus.refl _ | refine Plus.alloc ?_ _ | refine Plus.plus ?_ _ | refine Plus.drew ?_ | refine Plus.drewN ?_ _))) (hb.out.plus (by repeat' (first | exact Plus.refl _ | refine Plus.alloc ?_ _ | refine Plus.plus ?_ _ | refine Plus.drew ?_ | refine Plus.drewN ?_ _)))).mono ?_
  rintro e w1 ⟨A8, c8, rfl, a8, ⟨x8, rfl⟩⟩
  replace a8 := Lib.hid a8
  go_wp2_with fail
  refine (add_n g8 g7 h8 _ (a8.out.plus (by repeat' (first | exact Plus.refl _ | refine Plus.alloc ?_ _ | refine Plus.plus ?_ _ | refine Plus.drew ?_ | refine Plus.drewN ?_ _))) (a7.out.plus (by repeat' (first | exact Plus.refl _ | refine Plus.alloc ?_ _ | refine Plus.plus ?_ _ | refine Plus.drew ?_ | refine Plus.drewN ?_ _)))).mono ?_
  rintro e w1 ⟨A9, c9, rfl, a9, ⟨x9, rfl⟩⟩
  replace a9 := Lib.hid a9
  go_upto_region 21 with fail
  go_region
  · go_upto_region 24 with fail
    refine wp_region_noPanic ?_
    refine wp_region_held_drew (S := (fun w' => w'.cell? ⟨w.heap.size + 1 + 1 + y0.blocks.length + y1.blocks.length + y2.blocks.length + x1.blocks.length + 1 + x2.blocks.length + 1 + x3.blocks.length + 1 + x4.blocks.length + 1 + y3.blocks.length + y4.blocks.length + x5.blocks.length + 1 + y5.blocks.length + x6.blocks.length + 1 + x7.blocks.length + 1 + x8.blocks.length + 1 + x9.blocks.length + 1 + 1, 0, none⟩ = some (.bool bn) ∧ w'.cell? ⟨w.heap.size + 1 + 1 + y0.blocks.length + y1.blocks.length + y2.blocks.length + x1.blocks.length + 1 + x2.blocks.length + 1 + x3.blocks.length + 1 + x4.blocks.length + 1 + y3.blocks.length + y4.blocks.length + x5.blocks.length + 1 + y5.blocks.length + x6.blocks.length + 1 + x7.blocks.length + 1 + x8.blocks.length + 1 + x9.blocks.length + 1 + 1, 1, none⟩ = some (.slice C m d))) (by kernel_rfl) (by (refine ⟨?_, ?_⟩ <;> simp [go_sem])) (fun hHeld => ?_)
    refine wpAnyH_take (i := 0) (oi := { dst := some 141, op := Go.Op.load 24 (Go.Operand.tmp 24), type := 24, pos := "law.go:108", after := #[], guard := none }) (v := ?v24_0) rfl (by kernel_rfl) (by kernel_rfl) (by kernel_rfl) (fun _ _ _ h => h) (Or.inl ⟨by rfl, ?hy24_0⟩) hHeld ?_
    case hy24_0 => (intro w hSw; (try dsimp only at hSw); go_simp; first | done | with_reducible rfl)
    try simp only [Act.put, List.setIfInBounds_toArray, List.set_cons_zero, List.set_cons_succ]
    refine wpAnyH_ready (rs := [1]) (by kernel_rfl) (by simp) ?_
    refine AllReadyH.cons (o := { dst := some 142, op := Go.Op.call { callee := Go.Callee.value (Go.Operand.func 44), args := #[Go.Operand.const (Go.Value.int Go.IntKind.i64 0)], argTypes := #[3] }, type := 24, pos := "law.go:108", after := #[], guard := none }) rfl (fun K hK => ?_) AllReadyH.nil
    go_simp
    (with_reducible refine (of_n h11 _).mono ?_); rintro e w1 ⟨A11, c11, rfl, a11, ⟨x11, rfl⟩⟩; (try simp only [plus_drew] at a11); replace a11 := Lib.hid a11
    go_wp2_with fail
    refine hK.out _ _ (by (try dsimp only); (refine ⟨?_, ?_⟩ <;> simp [go_sem])) (fun hHeld1 => ?_)
    clear hK K hHeld
    try simp only [Act.put, List.setIfInBounds_toArray, List.set_cons_zero, List.set_cons_succ]
    refine wpAnyH_ready (rs := [2]) (by kernel_rfl) (by simp) ?_
    refine AllReadyH.cons (o := { dst := some 143, op := Go.Op.call { callee := Go.Callee.value (Go.Operand.func 28), args := #[Go.Operand.tmp 141, Go.Operand.tmp 142], argTypes := #[24, 24] }, type := 3, pos := "law.go:108", after := #[{ on := 0, ground := Go.Ground.data }, { on := 1, ground := Go.Ground.data }, { on := 1, ground := Go.Ground.chain }], guard := none }) rfl (fun K hK => ?_) AllReadyH.nil
    go_simp
    (with_reducible refine (cmp_m gb g11 k11 _ (hb.out.plus (by repeat' (first | exact Plus.refl _ | refine Plus.alloc ?_ _ | refine Plus.plus ?_ _ | refine Plus.drew ?_ | refine Plus.drewN ?_ _))) (a11.out.plus (by repeat' (first | exact Plus.refl _ | refine Plus.alloc ?_ _ | refine Plus.plus ?_ _ | refine Plus.drew ?_ | refine Plus.drewN ?_ _)))).mono ?_); rintro e w1 ⟨rfl, ⟨z1, rfl⟩⟩
    go_wp2_with fail
    refine hK.out _ _ (by (try dsimp only); (refine ⟨?_, ?_⟩ <;> simp [go_sem])) (fun hHeld2 => ?_)
    clear hK K hHeld1
    try simp only [Act.put, List.setIfInBounds_toArray, List.set_cons_zero, List.set_cons_succ]
    refine wpAnyH_take (i := 3) (oi := { dst := some 144, op := Go.Op.binOp Go.BinOp.lss 3 (Go.Operand.tmp 143) (Go.Operand.const (Go.Value.int Go.IntKind.i64 0)) 3, type := 4, pos := "law.go:108", after := #[{ on := 2, ground := Go.Ground.data }], guard := none }) (v := ?v24_3) rfl (by kernel_rfl) (by kernel_rfl) (by kernel_rfl) (fun _ _ _ h => h) (Or.inl ⟨by rfl, ?hy24_3⟩) hHeld2 ?_
    case hy24_3 => (intro w hSw; (try dsimp only at hSw); go_simp; first | done | with_reducible rfl)
    try simp only [Act.put, List.setIfInBounds_toArray, List.set_cons_zero, List.set_cons_succ]
    refine wpAnyH_done (by kernel_rfl) ?_ _
    refine NoPanic.normal ?_
    go_wp2_with fail
    refine (neg_n gb h12 _ (hb.out.plus (by repeat' (first | exact Plus.refl _ | refine Plus.alloc ?_ _ | refine Plus.plus ?_ _ | refine Plus.drew ?_ | refine Plus.drewN ?_ _)))).mono ?_
    rintro e w1 ⟨A12, c12, rfl, a12, ⟨x12, rfl⟩⟩
    (try simp only [plus_drew] at a12); replace a12 := Lib.hid a12
    go_wp2_with fail
    refine (first_c _).mono ?_
    rintro e w1 ⟨rfl, ⟨z2, rfl⟩⟩
    go_wp2_with fail
    refine (same_m g9 ga s9 _ (a9.out.plus (by repeat' (first | exact Plus.refl _ | refine Plus.alloc ?_ _ | refine Plus.plus ?_ _ | refine Plus.drew ?_ | refine Plus.drewN ?_ _))) (ha.out.plus (by repeat' (first | exact Plus.refl _ | refine Plus.alloc ?_ _ | refine Plus.plus ?_ _ | refine Plus.drew ?_ | refine Plus.drewN ?_ _)))).mono ?_
    rintro e w1 ⟨rfl, ⟨z3, rfl⟩⟩
    have a12' := Lib.hid (Arg.b3 (p1 := .cells #[.bool false, .slice A7 u7.length c7] 24) (p2 := .cells #[.bool b12, .slice A12 u12.length c12] 24) a12.out (isBox.mk _ _ _ _ _) (isBox.mk _ _ _ _ _))
    clear a12
    go_wp2_with fail
    refine (cmp_m g7 g12 k9 _ (a7.out.plus (by repeat' (first | exact Plus.refl _ | refine Plus.alloc ?_ _ | refine Plus.plus ?_ _ | refine Plus.drew ?_ | refine Plus.drewN ?_ _))) (a12'.out.plus (by repeat' (first | exact Plus.refl _ | refine Plus.alloc ?_ _ | refine Plus.plus ?_ _ | refine Plus.drew ?_ | refine Plus.drewN ?_ _)))).mono ?_
    rintro e w1 ⟨rfl, ⟨z4, rfl⟩⟩
    go_wp2_with fail
    go_ret
    exact ⟨rfl, (by repeat' (first | exact Plus.refl _ | refine Plus.alloc ?_ _ | refine Plus.plus ?_ _ | refine Plus.drew ?_ | refine Plus.drewN ?_ _))⟩
  · go_upto_region 24 with fail
    refine wp_region_noPanic ?_
    refine wp_region_held_drew (S := (fun w' => w'.cell? ⟨w.heap.size + 1 + 1 + y0.blocks.length + y1.blocks.length + y2.blocks.length + x1.blocks.length + 1 + x2.blocks.length + 1 + x3.blocks.length + 1 + x4.blocks.length + 1 + y3.blocks.length + y4.blocks.length + x5.blocks.length + 1 + y5.blocks.length + x6.blocks.length + 1 + x7.blocks.length + 1 + x8.blocks.length + 1 + x9.blocks.length + 1, 0, none⟩ = some (.bool bn) ∧ w'.cell? ⟨w.heap.size + 1 + 1 + y0.blocks.length + y1.blocks.length + y2.blocks.length + x1.blocks.length + 1 + x2.blocks.length + 1 + x3.blocks.length + 1 + x4.blocks.length + 1 + y3.blocks.length + y4.blocks.length + x5.blocks.length + 1 + y5.blocks.length + x6.blocks.length + 1 + x7.blocks.length + 1 + x8.blocks.length + 1 + x9.blocks.length + 1, 1, none⟩ = some (.slice C m d))) (by kernel_rfl) (by (refine ⟨?_, ?_⟩ <;> simp [go_sem])) (fun hHeld => ?_)
    refine wpAnyH_take (i := 0) (oi := { dst := some 141, op := Go.Op.load 24 (Go.Operand.tmp 24), type := 24, pos := "law.go:108", after := #[], guard := none }) (v := ?v24_0) rfl (by kernel_rfl) (by kernel_rfl) (by kernel_rfl) (fun _ _ _ h => h) (Or.inl ⟨by rfl, ?hy24_0⟩) hHeld ?_
    case hy24_0 => (intro w hSw; (try dsimp only at hSw); go_simp; first | done | with_reducible rfl)
    try simp only [Act.put, List.setIfInBounds_toArray, List.set_cons_zero, List.set_cons_succ]
    refine wpAnyH_ready (rs := [1]) (by kernel_rfl) (by simp) ?_
    refine AllReadyH.cons (o := { dst := some 142, op := Go.Op.call { callee := Go.Callee.value (Go.Operand.func 44), args := #[Go.Operand.const (Go.Value.int Go.IntKind.i64 0)], argTypes := #[3] }, type := 24, pos := "law.go:108", after := #[], guard := none }) rfl (fun K hK => ?_) AllReadyH.nil
    go_simp
    (with_reducible refine (of_n h11 _).mono ?_); rintro e w1 ⟨A11, c11, rfl, a11, ⟨x11, rfl⟩⟩; (try simp only [plus_drew] at a11); replace a11 := Lib.hid a11
    go_wp2_with fail
    refine hK.out _ _ (by (try dsimp only); (refine ⟨?_, ?_⟩ <;> simp [go_sem])) (fun hHeld1 => ?_)
    clear hK K hHeld
    try simp only [Act.put, List.setIfInBounds_toArray, List.set_cons_zero, List.set_cons_succ]
    refine wpAnyH_ready (rs := [2]) (by kernel_rfl) (by simp) ?_
    refine AllReadyH.cons (o := { dst := some 143, op := Go.Op.call { callee := Go.Callee.value (Go.Operand.func 28), args := #[Go.Operand.tmp 141, Go.Operand.tmp 142], argTypes := #[24, 24] }, type := 3, pos := "law.go:108", after := #[{ on := 0, ground := Go.Ground.data }, { on := 1, ground := Go.Ground.data }, { on := 1, ground := Go.Ground.chain }], guard := none }) rfl (fun K hK => ?_) AllReadyH.nil
    go_simp
    (with_reducible refine (cmp_m gb g11 k11 _ (hb.out.plus (by repeat' (first | exact Plus.refl _ | refine Plus.alloc ?_ _ | refine Plus.plus ?_ _ | refine Plus.drew ?_ | refine Plus.drewN ?_ _))) (a11.out.plus (by repeat' (first | exact Plus.refl _ | refine Plus.alloc ?_ _ | refine Plus.plus ?_ _ | refine Plus.drew ?_ | refine Plus.drewN ?_ _)))).mono ?_); rintro e w1 ⟨rfl, ⟨z1, rfl⟩⟩
    go_wp2_with fail
    refine hK.out _ _ (by (try dsimp only); (refine ⟨?_, ?_⟩ <;> simp [go_sem])) (fun hHeld2 => ?_)
    clear hK K hHeld1
    try simp only [Act.put, List.setIfInBounds_toArray, List.set_cons_zero, List.set_cons_succ]
    refine wpAnyH_take (i := 3) (oi := { dst := some 144, op := Go.Op.binOp Go.BinOp.lss 3 (Go.Operand.tmp 143) (Go.Operand.const (Go.Value.int Go.IntKind.i64 0)) 3, type := 4, pos := "law.go:108", after := #[{ on := 2, ground := Go.Ground.data }], guard := none }) (v := ?v24_3) rfl (by kernel_rfl) (by kernel_rfl) (by kernel_rfl) (fun _ _ _ h => h) (Or.inl ⟨by rfl, ?hy24_3⟩) hHeld2 ?_
    case hy24_3 => (intro w hSw; (try dsimp only at hSw); go_simp; first | done | with_reducible rfl)
    try simp only [Act.put, List.setIfInBounds_toArray, List.set_cons_zero, List.set_cons_succ]
    refine wpAnyH_done (by kernel_rfl) ?_ _
    refine NoPanic.normal ?_
    go_wp2_with fail
    refine (neg_n gb h12 _ (hb.out.plus (by repeat' (first | exact Plus.refl _ | refine Plus.alloc ?_ _ | refine Plus.plus ?_ _ | refine Plus.drew ?_ | refine Plus.drewN ?_ _)))).mono ?_
    rintro e w1 ⟨A12, c12, rfl, a12, ⟨x12, rfl⟩⟩
    (try simp only [plus_drew] at a12); replace a12 := Lib.hid a12
    go_wp2_with fail
    refine (first_c _).mono ?_
    rintro e w1 ⟨rfl, ⟨z2, rfl⟩⟩
    go_wp2_with fail
    refine (same_m g9 ga s9 _ (a9.out.plus (by repeat' (first | exact Plus.refl _ | refine Plus.alloc ?_ _ | refine Plus.plus ?_ _ | refine Plus.drew ?_ | refine Plus.drewN ?_ _))) (ha.out.plus (by repeat' (first | exact Plus.refl _ | refine Plus.alloc ?_ _ | refine Plus.plus ?_ _ | refine Plus.drew ?_ | refine Plus.drewN ?_ _)))).mono ?_
    rintro e w1 ⟨rfl, ⟨z3, rfl⟩⟩
    have a12' := Lib.hid (Arg.b3 (p1 := .cells #[.bool b12, .slice A12 u12.length c12] 24) (p2 := .cells #[.bool false, .slice A7 u7.length c7] 24) a12.out (isBox.mk _ _ _ _ _) (isBox.mk _ _ _ _ _))
    clear a12
    go_wp2_with fail
    refine (cmp_m g7 g12 k9 _ (a7.out.plus (by repeat' (first | exact Plus.refl _ | refine Plus.alloc ?_ _ | refine Plus.plus ?_ _ | refine Plus.drew ?_ | refine Plus.drewN ?_ _))) (a12'.out.plus (by repeat' (first | exact Plus.refl _ | refine Plus.alloc ?_ _ | refine Plus.plus ?_ _ | refine Plus.drew ?_ | refine Plus.drewN ?_ _)))).mono ?_
    rintro e w1 ⟨rfl, ⟨z4, rfl⟩⟩
    go_wp2_with fail
    go_ret
    exact ⟨rfl, (by repeat' (first | exact Plus.refl _ | refine Plus.alloc ?_ _ | refine Plus.plus ?_ _ | refine Plus.drew ?_ | refine Plus.drewN ?_ _))⟩

set_option maxRecDepth 100000 in
set_option maxHeartbeats 16000000 in
theorem turns_ppy (an : Bool) (A : Option Addr) (xs : List Nat) (n c : Nat) (bn : Bool) (C : Option Addr) (ys : List Nat) (m d : Nat) (a b s t : Int) (o2 b1 b2 : Bool) (u1 u2 : List Nat) (b3 : Bool) (u3 : List Nat) (q r p : Int) (b6 b8 b9 : Bool) (u6 u7 u8 u9 : List Nat) (b11 : Bool) (u11 : List Nat) (w : World) (ha : Hid (Arg w A xs n c)) (hb : Hid (Arg w C ys m d)) (ga : Hid (bigI an xs = a)) (gb : Hid (bigI bn ys = b)) (f1 : Hid (decide (n ≤ 40) = true)) (f2 : Hid (decide (m ≤ 40) = true))
    (h1 : Hid (AddN a b s true b1 u1)) (h1' : Hid (AddN b a s true b1 u1)) (g1 : Hid (bigI b1 u1 = s)) (s1 : Hid (SameN s s true)) (h2 : Hid (MulN a b t o2 b2 u2)) (h2' : Hid (MulN b a t o2 b2 u2)) (g2 : Hid (bigI b2 u2 = t)) (s2 : Hid (SameN t t true)) (h3 : Hid (SubN s b a true b3 u3)) (g3 : Hid (bigI b3 u3 = a)) (s3 : Hid (SameN a a true)) (h5 : Hid (DivN a b q 0 b6 u6)) (g6 : Hid (bigI b6 u6 = q)) (h6 : Hid (RemN a b r 0 false u7)) (g7 : Hid (bigI false u7 = r)) (h7 : Hid (MulN q b p true b8 u8)) (g8 : Hid (bigI b8 u8 = p)) (h8 : Hid (AddN p r a true b9 u9)) (g9 : Hid (bigI b9 u9 = a)) (s9 : Hid (SameN a a true)) (h11 : Hid (OfN 0 0 b11 u11)) (g11 : Hid (bigI b11 u11 = 0)) (k11 : Hid (CmpN b 0 (1))) (k9 : Hid (CmpN r b (-1))) :
    Calls Try.prog 6 #[.agg #[.bool an, .slice A n c], .agg #[.bool bn, .slice C m d]] w fun e w' => e = .returned (.bool true) ∧ Plus w w' := by
  go_enter Try.func6, Try.ntmps6
  go_wp2_with fail
  refine (first_c _).mono ?_
  rintro e w1 ⟨rfl, ⟨y0, rfl⟩⟩
  go_wp2_with fail
  refine (few_c f1 _).mono ?_
  rintro e w1 ⟨rfl, ⟨y1, rfl⟩⟩
  go_wp2_with fail
  refine (few_c f2 _).mono ?_
  rintro e w1 ⟨rfl, ⟨y2, rfl⟩⟩
  go_wp2_with fail
  refine (add_n ga gb h1 _ (ha.out.plus (by repeat' (first | exact Plus.refl _ | refine Plus.alloc ?_ _ | refine Plus.plus ?_ _ | refine Plus.drew ?_ | refine Plus.drewN ?_ _))) (hb.out.plus (by repeat' (first | exact Plus.refl _ | refine Plus.alloc ?_ _ | refine Plus.plus ?_ _ | refine Plus.drew ?_ | refine Plus.drewN ?_ _)))).mono ?_
  rintro e w1 ⟨A1, c1, rfl, a1, ⟨x1, rfl⟩⟩
  replace a1 := Lib.hid a1
  go_wp2_with fail
  refine (add_n gb ga h1' _ (hb.out.plus (by repeat' (first | exact Plus.refl _ | refine Plus.alloc ?_ _ | refine Plus.plus ?_ _ | refine Plus.drew ?_ | refine Plus.drewN ?_ _))) (ha.out.plus (by repeat' (first | exact Plus.refl _ | refine Plus.alloc ?_ _ | refine Plus.plus ?_ _ | refine Plus.drew ?_ | refine Plus.drewN ?_ _)))).mono ?_
  rintro e w1 ⟨A2, c2, rfl, a2, ⟨x2, rfl⟩⟩
  replace a2 := Lib.hid a2
  go_wp2_with fail
  refine (mul_n ga gb h2 _ (ha.out.plus (by repeat' (first | exact Plus.refl _ | refine Plus.alloc ?_ _ | refine Plus.plus ?_ _ | refine Plus.drew ?_ | refine Plus.drewN ?_ _))) (hb.out.plus (by repeat' (first | exact Plus.refl _ | refine Plus.alloc ?_ _ | refine Plus.plus ?_ _ | refine Plus.drew ?_ | refine Plus.drewN ?_ _)))).mono ?_
  rintro e w1 ⟨A3, c3, rfl, a3, ⟨x3, rfl⟩⟩
  replace a3 := Lib.hid a3
  go_wp2_with fail
  refine (mul_n gb ga h2' _ (hb.out.plus (by repeat' (first | exact Plus.refl _ | refine Plus.alloc ?_ _ | refine Plus.plus ?_ _ | refine Plus.drew ?_ | refine Plus.drewN ?_ _))) (ha.out.plus (by repeat' (first | exact Plus.refl _ | refine Plus.alloc ?_ _ | refine Plus.plus ?_ _ | refine Plus.drew ?_ | refine Plus.drewN ?_ _)))).mono ?_
  rintro e w1 ⟨A4, c4, rfl, a4, ⟨x4, rfl⟩⟩
  replace a4 := Lib.hid a4
  go_wp2_with fail
  refine (same_m g1 g1 s1 _ (a1.out.plus (by repeat' (first | exact Plus.refl _ | refine Plus.alloc ?_ _ | refine Plus.plus ?_ _ | refine Plus.drew ?_ | refine Plus.drewN ?_ _))) (a2.out.plus (by repeat' (first | exact Plus.refl _ | refine Plus.alloc ?_ _ | refine Plus.plus ?_ _ | refine Plus.drew ?_ | refine Plus.drewN ?_ _)))).mono ?_
  rintro e w1 ⟨rfl, ⟨y3, rfl⟩⟩
  go_wp2_with fail
  refine (same_m g2 g2 s2 _ (a3.out.plus (by repeat' (first | exact Plus.refl _ | refine Plus.alloc ?_ _ | refine Plus.plus ?_ _ | refine Plus.drew ?_ | refine Plus.drewN ?_ _))) (a4.out.plus (by repeat' (first | exact Plus.refl _ | refine Plus.alloc ?_ _ | refine Plus.plus ?_ _ | refine Plus.drew ?_ | refine Plus.drewN ?_ _)))).mono ?_
  rintro e w1 ⟨rfl, ⟨y4, rfl⟩⟩
  go_wp2_with fail
  refine (sub_n g1 gb h3 _ (a1.out.plus (by repeat' (first | exact Plus.refl _ | refine Plus.alloc ?_ _ | refine Plus.plus ?_ _ | refine Plus.drew ?_ | refine Plus.drewN ?_ _))) (hb.out.plus (by repeat' (first | exact Plus.refl _ | refine Plus.alloc ?_ _ | refine Plus.plus ?_ _ | refine Plus.drew ?_ | refine Plus.drewN ?_ _)))).mono ?_
  rintro e w1 ⟨A5, c5, rfl, a5, ⟨x5, rfl⟩⟩
  replace a5 := Lib.hid a5
  go_wp2_with fail
  refine (same_m g3 ga s3 _ (a5.out.plus (by repeat' (first | exact Plus.refl _ | refine Plus.alloc ?_ _ | refine Plus.plus ?_ _ | refine Plus.drew ?_ | refine Plus.drewN ?_ _))) (ha.out.plus (by repeat' (first | exact Plus.refl _ | refine Plus.alloc ?_ _ | refine Plus.plus ?_ _ | refine Plus.drew ?_ | refine Plus.drewN ?_ _)))).mono ?_
  rintro e w1 ⟨rfl, ⟨y5, rfl⟩⟩
  go_wp2_with fail
  refine (div_n ga gb h5 _ (ha.out.plus (by repeat' (first | exact Plus.refl _ | refine Plus.alloc ?_ _ | refine Plus.plus ?_ _ | refine Plus.drew ?_ | refine Plus.drewN ?_ _))) (hb.out.plus (by repeat' (first | exact Plus.refl _ | refine Plus.alloc ?_ _ | refine Plus.plus ?_ _ | refine Plus.drew ?_ | refine Plus.drewN ?_ _)))).mono ?_
  rintro e w1 ⟨A6, c6, rfl, a6, ⟨x6, rfl⟩⟩
  replace a6 := Lib.hid a6
  go_wp2_with fail
  refine (rem_n ga gb h6 _ (ha.out.plus (by repeat' (first | exact Plus.refl _ | refine Plus.alloc ?_ _ | refine Plus.plus ?_ _ | refine Plus.drew ?_ | refine Plus.drewN ?_ _))) (hb.out.plus (by repeat' (first | exact Plus.refl _ | refine Plus.alloc ?_ _ | refine Plus.plus ?_ _ | refine Plus.drew ?_ | refine Plus.drewN ?_ _)))).mono ?_
  rintro e w1 ⟨A7, c7, rfl, a7, ⟨x7, rfl⟩⟩
  replace a7 := Lib.hid a7
  go_wp2_with fail
  refine (mul_n g6 gb h7 _ (a6.out.plus (by repeat' (first | exact Plus.refl _ | refine Plus.alloc ?_ _ | refine Plus.plus ?_ _ | refine Plus.drew ?_ | refine Plus.drewN ?_ _))) (hb.out.plus (by repeat' (first | exact Plus.refl _ | refine Plus.alloc ?_ _ | refine Plus.plus ?_ _ | refine Plus.drew ?_ | refine Plus.drewN ?_ _)))).mono ?_
  rintro e w1 ⟨A8, c8, rfl, a8, ⟨x8, rfl⟩⟩
  replace a8 := Lib.hid a8
  go_wp2_with fail
  refine (add_n g8 g7 h8 _ (a8.out.plus (by repeat' (first | exact Plus.refl _ | refine Plus.alloc ?_ _ | refine Plus.plus ?_ _ | refine Plus.drew ?_ | refine Plus.drewN ?_ _))) (a7.out.plus (by repeat' (first | exact Plus.refl _ | refine Plus.alloc ?_ _ | refine Plus.plus ?_ _ | refine Plus.drew ?_ | refine Plus.drewN ?_ _)))).mono ?_
  rintro e w1 ⟨A9, c9, rfl, a9, ⟨x9, rfl⟩⟩
  replace a9 := Lib.hid a9
  go_upto_region 21 with fail
  go_region
  · go_upto_region 24 with fail
    refine wp_region_noPanic ?_
    refine wp_region_held_drew (S := (fun w' => w'.cell? ⟨w.heap.size + 1 + 1 + y0.blocks.length + y1.blocks.length + y2.blocks.length + x1.blocks.length + 1 + x2.blocks.length + 1 + x3.blocks.length + 1 + x4.blocks.length + 1 + y3.blocks.length + y4.blocks.length + x5.blocks.length + 1 + y5.blocks.length + x6.blocks.length + 1 + x7.blocks.length + 1 + x8.blocks.length + 1 + x9.blocks.length + 1 + 1, 0, none⟩ = some (.bool bn) ∧ w'.cell? ⟨w.heap.size + 1 + 1 + y0.blocks.length + y1.blocks.length + y2.blocks.length + x1.blocks.length + 1 + x2.blocks.length + 1 + x3.blocks.length + 1 + x4.blocks.length + 1 + y3.blocks.length + y4.blocks.length + x5.blocks.length + 1 + y5.blocks.length + x6.blocks.length + 1 + x7.blocks.length + 1 + x8.blocks.length + 1 + x9.blocks.length + 1 + 1, 1, none⟩ = some (.slice C m d))) (by kernel_rfl) (by (refine ⟨?_, ?_⟩ <;> simp [go_sem])) (fun hHeld => ?_)
    refine wpAnyH_take (i := 0) (oi := { dst := some 141, op := Go.Op.load 24 (Go.Operand.tmp 24), type := 24, pos := "law.go:108", after := #[], guard := none }) (v := ?v24_0) rfl (by kernel_rfl) (by kernel_rfl) (by kernel_rfl) (fun _ _ _ h => h) (Or.inl ⟨by rfl, ?hy24_0⟩) hHeld ?_
    case hy24_0 => (intro w hSw; (try dsimp only at hSw); go_simp; first | done | with_reducible rfl)
    try simp only [Act.put, List.setIfInBounds_toArray, List.set_cons_zero, List.set_cons_succ]
    refine wpAnyH_ready (rs := [1]) (by kernel_rfl) (by simp) ?_
    refine AllReadyH.cons (o := { dst := some 142, op := Go.Op.call { callee := Go.Callee.value (Go.Operand.func 44), args := #[Go.Operand.const (Go.Value.int Go.IntKind.i64 0)], argTypes := #[3] }, type := 24, pos := "law.go:108", after := #[], guard := none }) rfl (fun K hK => ?_) AllReadyH.nil
    go_simp
    (with_reducible refine (of_n h11 _).mono ?_); rintro e w1 ⟨A11, c11, rfl, a11, ⟨x11, rfl⟩⟩; (try simp only [plus_drew] at a11); replace a11 := Lib.hid a11
    go_wp2_with fail
    refine hK.out _ _ (by (try dsimp only); (refine ⟨?_, ?_⟩ <;> simp [go_sem])) (fun hHeld1 => ?_)
    clear hK K hHeld
    try simp only [Act.put, List.setIfInBounds_toArray, List.set_cons_zero, List.set_cons_succ]
    refine wpAnyH_ready (rs := [2]) (by kernel_rfl) (by simp) ?_
    refine AllReadyH.cons (o := { dst := some 143, op := Go.Op.call { callee := Go.Callee.value (Go.Operand.func 28), args := #[Go.Operand.tmp 141, Go.Operand.tmp 142], argTypes := #[24, 24] }, type := 3, pos := "law.go:108", after := #[{ on := 0, ground := Go.Ground.data }, { on := 1, ground := Go.Ground.data }, { on := 1, ground := Go.Ground.chain }], guard := none }) rfl (fun K hK => ?_) AllReadyH.nil
    go_simp
    (with_reducible refine (cmp_m gb g11 k11 _ (hb.out.plus (by repeat' (first | exact Plus.refl _ | refine Plus.alloc ?_ _ | refine Plus.plus ?_ _ | refine Plus.drew ?_ | refine Plus.drewN ?_ _))) (a11.out.plus (by repeat' (first | exact Plus.refl _ | refine Plus.alloc ?_ _ | refine Plus.plus ?_ _ | refine Plus.drew ?_ | refine Plus.drewN ?_ _)))).mono ?_); rintro e w1 ⟨rfl, ⟨z1, rfl⟩⟩
    go_wp2_with fail
    refine hK.out _ _ (by (try dsimp only); (refine ⟨?_, ?_⟩ <;> simp [go_sem])) (fun hHeld2 => ?_)
    clear hK K hHeld1
    try simp only [Act.put, List.setIfInBounds_toArray, List.set_cons_zero, List.set_cons_succ]
    refine wpAnyH_take (i := 3) (oi := { dst := some 144, op := Go.Op.binOp Go.BinOp.lss 3 (Go.Operand.tmp 143) (Go.Operand.const (Go.Value.int Go.IntKind.i64 0)) 3, type := 4, pos := "law.go:108", after := #[{ on := 2, ground := Go.Ground.data }], guard := none }) (v := ?v24_3) rfl (by kernel_rfl) (by kernel_rfl) (by kernel_rfl) (fun _ _ _ h => h) (Or.inl ⟨by rfl, ?hy24_3⟩) hHeld2 ?_
    case hy24_3 => (intro w hSw; (try dsimp only at hSw); go_simp; first | done | with_reducible rfl)
    try simp only [Act.put, List.setIfInBounds_toArray, List.set_cons_zero, List.set_cons_succ]
    refine wpAnyH_done (by kernel_rfl) ?_ _
    refine NoPanic.normal ?_
    go_wp2_with fail
    refine (first_c _).mono ?_
    rintro e w1 ⟨rfl, ⟨z2, rfl⟩⟩
    go_wp2_with fail
    refine (same_m g9 ga s9 _ (a9.out.plus (by repeat' (first | exact Plus.refl _ | refine Plus.alloc ?_ _ | refine Plus.plus ?_ _ | refine Plus.drew ?_ | refine Plus.drewN ?_ _))) (ha.out.plus (by repeat' (first | exact Plus.refl _ | refine Plus.alloc ?_ _ | refine Plus.plus ?_ _ | refine Plus.drew ?_ | refine Plus.drewN ?_ _)))).mono ?_
    rintro e w1 ⟨rfl, ⟨z3, rfl⟩⟩
    go_wp2_with fail
    refine (cmp_m g7 gb k9 _ (a7.out.plus (by repeat' (first | exact Plus.refl _ | refine Plus.alloc ?_ _ | refine Plus.plus ?_ _ | refine Plus.drew ?_ | refine Plus.drewN ?_ _))) (hb.out.plus (by repeat' (first | exact Plus.refl _ | refine Plus.alloc ?_ _ | refine Plus.plus ?_ _ | refine Plus.drew ?_ | refine Plus.drewN ?_ _)))).mono ?_
    rintro e w1 ⟨rfl, ⟨z4, rfl⟩⟩
    go_wp2_with fail
    go_ret
    exact ⟨rfl, (by repeat' (first | exact Plus.refl _ | refine Plus.alloc ?_ _ | refine Plus.plus ?_ _ | refine Plus.drew ?_ | refine Plus.drewN ?_ _))⟩
  · go_upto_region 24 with fail
    refine wp_region_noPanic ?_
    refine wp_region_held_drew (S := (fun w' => w'.cell? ⟨w.heap.size + 1 + 1 + y0.blocks.length + y1.blocks.length + y2.blocks.length + x1.blocks.length + 1 + x2.blocks.length + 1 + x3.blocks.length + 1 + x4.blocks.length + 1 + y3.blocks.length + y4.blocks.length + x5.blocks.length + 1 + y5.blocks.length + x6.blocks.length + 1 + x7.blocks.length + 1 + x8.blocks.length + 1 + x9.blocks.length + 1, 0, none⟩ = some (.bool bn) ∧ w'.cell? ⟨w.heap.size + 1 + 1 + y0.blocks.length + y1.blocks.length + y2.blocks.length + x1.blocks.length + 1 + x2.blocks.length + 1 + x3.blocks.length + 1 + x4.blocks.length + 1 + y3.blocks.length + y4.blocks.length + x5.blocks.length + 1 + y5.blocks.length + x6.blocks.length + 1 + x7.blocks.length + 1 + x8.blocks.length + 1 + x9.blocks.length + 1, 1, none⟩ = some (.slice C m d))) (by kernel_rfl) (by (refine ⟨?_, ?_⟩ <;> simp [go_sem])) (fun hHeld => ?_)
    refine wpAnyH_take (i := 0) (oi := { dst := some 141, op := Go.Op.load 24 (Go.Operand.tmp 24), type := 24, pos := "law.go:108", after := #[], guard := none }) (v := ?v24_0) rfl (by kernel_rfl) (by kernel_rfl) (by kernel_rfl) (fun _ _ _ h => h) (Or.inl ⟨by rfl, ?hy24_0⟩) hHeld ?_
    case hy24_0 => (intro w hSw; (try dsimp only at hSw); go_simp; first | done | with_reducible rfl)
    try simp only [Act.put, List.setIfInBounds_toArray, List.set_cons_zero, List.set_cons_succ]
    refine wpAnyH_ready (rs := [1]) (by kernel_rfl) (by simp) ?_
    refine AllReadyH.cons (o := { dst := some 142, op := Go.Op.call { callee := Go.Callee.value (Go.Operand.func 44), args := #[Go.Operand.const (Go.Value.int Go.IntKind.i64 0)], argTypes := #[3] }, type := 24, pos := "law.go:108", after := #[], guard := none }) rfl (fun K hK => ?_) AllReadyH.nil
    go_simp
    (with_reducible refine (of_n h11 _).mono ?_); rintro e w1 ⟨A11, c11, rfl, a11, ⟨x11, rfl⟩⟩; (try simp only [plus_drew] at a11); replace a11 := Lib.hid a11
    go_wp2_with fail
    refine hK.out _ _ (by (try dsimp only); (refine ⟨?_, ?_⟩ <;> simp [go_sem])) (fun hHeld1 => ?_)
    clear hK K hHeld
    try simp only [Act.put, List.setIfInBounds_toArray, List.set_cons_zero, List.set_cons_succ]
    refine wpAnyH_ready (rs := [2]) (by kernel_rfl) (by simp) ?_
    refine AllReadyH.cons (o := { dst := some 143, op := Go.Op.call { callee := Go.Callee.value (Go.Operand.func 28), args := #[Go.Operand.tmp 141, Go.Operand.tmp 142], argTypes := #[24, 24] }, type := 3, pos := "law.go:108", after := #[{ on := 0, ground := Go.Ground.data }, { on := 1, ground := Go.Ground.data }, { on := 1, ground := Go.Ground.chain }], guard := none }) rfl (fun K hK => ?_) AllReadyH.nil
    go_simp
    (with_reducible refine (cmp_m gb g11 k11 _ (hb.out.plus (by repeat' (first | exact Plus.refl _ | refine Plus.alloc ?_ _ | refine Plus.plus ?_ _ | refine Plus.drew ?_ | refine Plus.drewN ?_ _))) (a11.out.plus (by repeat' (first | exact Plus.refl _ | refine Plus.alloc ?_ _ | refine Plus.plus ?_ _ | refine Plus.drew ?_ | refine Plus.drewN ?_ _)))).mono ?_); rintro e w1 ⟨rfl, ⟨z1, rfl⟩⟩
    go_wp2_with fail
    refine hK.out _ _ (by (try dsimp only); (refine ⟨?_, ?_⟩ <;> simp [go_sem])) (fun hHeld2 => ?_)
    clear hK K hHeld1
    try simp only [Act.put, List.setIfInBounds_toArray, List.set_cons_zero, List.set_cons_succ]
    refine wpAnyH_take (i := 3) (oi := { dst := some 144, op := Go.Op.binOp Go.BinOp.lss 3 (Go.Operand.tmp 143) (Go.Operand.const (Go.Value.int Go.IntKind.i64 0)) 3, type := 4, pos := "law.go:108", after := #[{ on := 2, ground := Go.Ground.data }], guard := none }) (v := ?v24_3) rfl (by kernel_rfl) (by kernel_rfl) (by kernel_rfl) (fun _ _ _ h => h) (Or.inl ⟨by rfl, ?hy24_3⟩) hHeld2 ?_
    case hy24_3 => (intro w hSw; (try dsimp only at hSw); go_simp; first | done | with_reducible rfl)
    try simp only [Act.put, List.setIfInBounds_toArray, List.set_cons_zero, List.set_cons_succ]
    refine wpAnyH_done (by kernel_rfl) ?_ _
    refine NoPanic.normal ?_
    go_wp2_with fail
    refine (first_c _).mono ?_
    rintro e w1 ⟨rfl, ⟨z2, rfl⟩⟩
    go_wp2_with fail
    refine (same_m g9 ga s9 _ (a9.out.plus (by repeat' (first | exact Plus.refl _ | refine Plus.alloc ?_ _ | refine Plus.plus ?_ _ | refine Plus.drew ?_ | refine Plus.drewN ?_ _))) (ha.out.plus (by repeat' (first | exact Plus.refl _ | refine Plus.alloc ?_ _ | refine Plus.plus ?_ _ | refine Plus.drew ?_ | refine Plus.drewN ?_ _)))).mono ?_
    rintro e w1 ⟨rfl, ⟨z3, rfl⟩⟩
    go_wp2_with fail
    refine (cmp_m g7 gb k9 _ (a7.out.plus (by repeat' (first | exact Plus.refl _ | refine Plus.alloc ?_ _ | refine Plus.plus ?_ _ | refine Plus.drew ?_ | refine Plus.drewN ?_ _))) (hb.out.plus (by repeat' (first | exact Plus.refl _ | refine Plus.alloc ?_ _ | refine Plus.plus ?_ _ | refine Plus.drew ?_ | refine Plus.drewN ?_ _)))).mono ?_
    rintro e w1 ⟨rfl, ⟨z4, rfl⟩⟩
    go_wp2_with fail
    go_ret
    exact ⟨rfl, (by repeat' (first | exact Plus.refl _ | refine Plus.alloc ?_ _ | refine Plus.plus ?_ _ | refine Plus.drew ?_ | refine Plus.drewN ?_ _))⟩
end Go.Proofs.Ythaokkmbghgopaa
