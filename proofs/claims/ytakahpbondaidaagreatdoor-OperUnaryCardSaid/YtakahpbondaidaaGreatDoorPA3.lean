/- big: Mul, Add. -/
import Derived.Test.YtakahpbondaidaaGreatDoorPA2
import Derived.Test.YtakahpbondaidaaGreatDoorPZH
namespace Go.Proofs.YtakahpbondaidaaGreatDoor.Bg
open Go.RowKit

theorem pos_of_val {xs : List Nat} (h : 0 < val xs) : 0 < xs.length := by
  rcases xs with _ | ⟨x, xs⟩
  · simp [val] at h
  · simp
set_option maxRecDepth 100000 in
set_option maxHeartbeats 8000000 in
theorem add_h (an bn pb qb : Bool) (A C : Option Addr) (xs ys us vs : List Nat) (n c m d : Nat) (w : World) (ha : Hid (Arg w A xs n c)) (hb : Hid (Arg w C ys m d)) (h1 : Hid (decide (bigI an xs < 0) = pb ∧ dig (bigI an xs).natAbs = us)) (h2 : Hid (decide (bigI bn ys < 0) = qb ∧ dig (bigI bn ys).natAbs = vs)) (hu : us.length ≤ 8) (hv : vs.length ≤ 8) (N : Int) (hN : Hid (sgn pb (val us) + sgn qb (val vs) = N)) (hup : Hid (pb = true → 0 < val us)) (hvp : Hid (qb = true → 0 < val vs)) :
    Calls Tryz.prog 153 #[.agg #[.bool an, .slice A n c], .agg #[.bool bn, .slice C m d]] w (RetBigOk N w) := by
  go_enter Tryz.func153, Tryz.ntmps153
  go_upto_region 1 with fail
  go_cut [] (fun wx => ∃ A1 c1 C1 d1 x1 x2, wx = _root_.Go.Proofs.YtakahpbondaidaaGreatDoor.plus (_root_.Go.Proofs.YtakahpbondaidaaGreatDoor.plus (((w.alloc (.cells #[.bool pb, .slice A1 us.length c1] 26)).alloc (.cells #[.bool qb, .slice C1 vs.length d1] 26)).alloc (.cells #[.bool false, .slice none 0 0] 26)) x1) x2 ∧ Lim wx A1 us ∧ Lim wx C1 vs ∧ us.length ≤ c1 ∧ c1 ≤ 9223372036854775807 ∧ vs.length ≤ d1 ∧ d1 ≤ 9223372036854775807)
  case first =>
    go_region_with (first | (go_at_call_of 118 (Value.agg #[.bool an, .slice A n c]); (with_reducible refine (valid_h h1 _ (ha.out.plus (by repeat' (first | exact Plus.refl _ | refine Plus.alloc ?_ _ | refine Plus.plus ?_ _ | refine Plus.drew ?_ | refine Plus.drewN ?_ _)))).mono ?_); rintro e w1 ⟨A1, c1, rfl, q1, q2, q3, ⟨x1, rfl⟩⟩; have Q3 := Lib.hid q3; have Q1 := Lib.hid q1; have Q2 := Lib.hid q2; clear q3 q1 q2) | (go_at_call_of 118 (Value.agg #[.bool bn, .slice C m d]); (with_reducible refine (valid_h h2 _ (hb.out.plus (by repeat' (first | exact Plus.refl _ | refine Plus.alloc ?_ _ | refine Plus.plus ?_ _ | refine Plus.drew ?_ | refine Plus.drewN ?_ _)))).mono ?_); rintro e w1 ⟨C1, d1, rfl, r1, r2, r3, ⟨y1, rfl⟩⟩; have R3 := Lib.hid r3; have R1 := Lib.hid r1; have R2 := Lib.hid r2; clear r3 r1 r2))
    all_goals
      go_wp2_with fail
      go_meet
      have Q4 := Q3.out
      have R4 := R3.out
      simp only [plus_drew] at Q4 R4
      refine ⟨A1, c1, C1, d1, _, _, rfl, ?_, ?_, Q1.out, Q2.out, R1.out, R2.out⟩
      all_goals first | with_reducible exact (Q4.box3 (isBox.mk _ _ _ _ _) (isBox.mk _ _ _ _ _) (isBox.mk _ _ _ _ _)).grow _ | with_reducible exact Q4.box33 (isBox.mk _ _ _ _ _) (isBox.mk _ _ _ _ _) (isBox.mk _ _ _ _ _) | with_reducible exact (R4.box3 (isBox.mk _ _ _ _ _) (isBox.mk _ _ _ _ _) (isBox.mk _ _ _ _ _)).grow _ | with_reducible exact R4.box33 (isBox.mk _ _ _ _ _) (isBox.mk _ _ _ _ _) (isBox.mk _ _ _ _ _)
  case rest =>
    obtain ⟨A1, c1, C1, d1, x1, x2, rfl, hL1, hL2, k1, k2, k3, k4⟩ := hcut
    have L1 := Lib.hid hL1
    have L2 := Lib.hid hL2
    clear hL1 hL2
    by_cases hpq : pb = qb
    · subst hpq
      have hT : Hid (sgn pb (val us + val vs) = N) := Lib.hid (by rw [← hN.out]; cases pb <;> simp [sgn] <;> omega)
      have hbb : (pb == pb) = true := by simp
      have hab : Hid (N.natAbs = val us + val vs) := Lib.hid (by rw [← hT.out]; exact sgn_abs pb (val us + val vs))
      go_upto_region 3 with fail
      go_region_held3 (fun w' => w'.cell? ⟨w.heap.size, 0, none⟩ = some (.bool pb) ∧ w'.cell? ⟨w.heap.size, 1, none⟩ = some (.slice A1 us.length c1) ∧ w'.cell? ⟨w.heap.size + 1, 0, none⟩ = some (.bool pb) ∧ w'.cell? ⟨w.heap.size + 1, 1, none⟩ = some (.slice C1 vs.length d1)) (refine ⟨?_, ?_, ?_, ?_⟩ <;> simp [go_sem]) (first | (go_at_call 222; (with_reducible refine (sum_c _ _ us vs _ _ _ (by first | exact L1.out | exact Lim.drew L1.out | (have q := L1.out; simp only [plus_drew] at q; exact q) | (have q := L1.out; simp only [plus_drew, size_plus, World.size_alloc, Nat.add_assoc] at q ⊢; exact q) | (have q := L1.out; simp only [plus_drew, size_plus, World.size_alloc, Nat.add_assoc] at q; exact q)) (by first | exact L2.out | exact Lim.drew L2.out | (have q := L2.out; simp only [plus_drew] at q; exact q) | (have q := L2.out; simp only [plus_drew, size_plus, World.size_alloc, Nat.add_assoc] at q ⊢; exact q) | (have q := L2.out; simp only [plus_drew, size_plus, World.size_alloc, Nat.add_assoc] at q; exact q)) (by omega) (by omega)).mono ?_); rintro e w1 ⟨g, os, rfl, _, q3, q4, q5, hB1⟩; obtain ⟨x3, rfl⟩ := Plus.of_below hB1; have Q3 := Lib.hid q3; have Q4 := Lib.hid q4; have Q5 := Lib.hid q5; clear q3 q4 q5 hB1) | (go_at_call 221; (with_reducible refine (fitting_c _ _ os _ _ _ (by first | exact Q3.out.toLim | exact Lim.drew Q3.out.toLim | (have q := Q3.out.toLim; simp only [plus_drew] at q; exact q) | (have q := Q3.out.toLim; simp only [plus_drew, size_plus, World.size_alloc, Nat.add_assoc] at q ⊢; exact q) | (have q := Q3.out.toLim; simp only [plus_drew, size_plus, World.size_alloc, Nat.add_assoc] at q; exact q)) rfl (Nat.le_refl _) (by have := Q5.out; omega)).mono ?_); rintro e w1 ⟨A3, c3, z, ok, rfl, r1, r2, r3, r4, r5, ⟨x4, rfl⟩⟩; have R1 := Lib.hid r1; have R2 := Lib.hid r2; have R3 := Lib.hid r3; have R5 := Lib.hid r5; clear r1 r2 r3 r5))
      all_goals
        go_wp2_with fail
        go_returns
        rw [← hT.out]
        have r1 := R1.out
        have r2 := R2.out
        rw [Q4.out] at r1 r2
        refine ⟨A3, c3, z, ok, rfl, r1, r2, R3.out, r4, ?_, ?_⟩
        · have q := R5.out
          simp only [plus_add] at q ⊢
          exact q.res
        · repeat' (first | exact Plus.refl _ | refine Plus.alloc ?_ _ | refine Plus.plus ?_ _ | refine Plus.drew ?_ | refine Plus.drewN ?_ _)
    · have hbb : (pb == qb) = false := by simpa using hpq
      rcases Nat.lt_or_ge (val us) (val vs) with hlt | hge
      · have HE := Lib.hid (cmpI_lt hlt)
        have HLT := Lib.hid hlt
        clear hlt
        have HP := Lib.hid (pos_of_val (xs := vs) (by have := HLT.out; omega))
        go_upto_region 6 with (go_at_call 206; (with_reducible refine (compare_i _ _ us vs _ _ _ _ (by first | exact L1.out | exact Lim.drew L1.out | (have q := L1.out; simp only [plus_drew] at q; exact q) | (have q := L1.out; simp only [plus_drew, size_plus, World.size_alloc, Nat.add_assoc] at q ⊢; exact q) | (have q := L1.out; simp only [plus_drew, size_plus, World.size_alloc, Nat.add_assoc] at q; exact q)) (by first | exact L2.out | exact Lim.drew L2.out | (have q := L2.out; simp only [plus_drew] at q; exact q) | (have q := L2.out; simp only [plus_drew, size_plus, World.size_alloc, Nat.add_assoc] at q ⊢; exact q) | (have q := L2.out; simp only [plus_drew, size_plus, World.size_alloc, Nat.add_assoc] at q; exact q)) rfl (by omega) (by omega)).mono ?_); rintro e w1 ⟨rfl, rfl⟩; rw [HE.out])
        go_wp2_with fail
        refine (clone_c _ vs _ _ _ (by have q := L2.out; exact q.box33 (isBox.mk _ _ _ _ _) (isBox.mk _ _ _ _ _) (isBox.mk _ _ _ _ _)) rfl (by omega)).mono ?_
        rintro e w1 ⟨v, rfl, hown, hB1⟩
        obtain ⟨g, c2, rfl, q1, q2, q3, q4⟩ := own_of_own L2.out.1 hown HP.out
        obtain ⟨x3, rfl⟩ := Plus.of_below hB1
        have Q3 := Lib.hid q3
        have Q4 := Lib.hid q4
        have HB1 := Lib.hid hB1
        clear q3 q4 hown hB1
        go_wp2_with fail
        refine (subtract_i g _ vs us _ _ _ _ Q4.out (by have q := L1.out; exact (q.box33 (isBox.mk _ _ _ _ _) (isBox.mk _ _ _ _ _) (isBox.mk _ _ _ _ _)).grow _) rfl (fun h0 ad e => ?_) (by have := HLT.out; omega) (by omega)).mono ?_
        · have q := L1.out
          obtain ⟨ad', e', hlt, _⟩ := (Lim.box33 (o1 := .cells #[.bool pb, .slice A1 us.length c1] 26) (o2 := .cells #[.bool qb, .slice C1 vs.length d1] 26) (o3 := .cells #[.bool false, .slice none 0 0] 26) (p1 := .cells #[.bool pb, .slice A1 us.length c1] 26) (p2 := .cells #[.bool qb, .slice C1 vs.length d1] 26) (p3 := .cells #[.bool false, .slice none 0 0] 26) q (isBox.mk _ _ _ _ _) (isBox.mk _ _ _ _ _) (isBox.mk _ _ _ _ _)).2 h0
          rw [e] at e'
          injection e' with e'
          subst e'
          have := Q3.out
          simp only [size_plus, World.size_alloc] at this hlt
          omega
        rintro e w2 ⟨os2, rfl, hO2, hv2, hl2, hg2⟩
        obtain ⟨x4, rfl⟩ := Plus.of_below (HB1.out.grown hg2 HB1.out.size (fun k e => by injection e with e; subst e; exact Q3.out))
        have HV2 : Hid (sgn qb (val os2) = N) := Lib.hid (by rw [← hN.out]; have := HLT.out; cases pb <;> cases qb <;> simp [sgn] at hbb ⊢ <;> omega)
        have HO2 := Lib.hid hO2
        have HL2 := Lib.hid hl2
        have HAB : Hid (N.natAbs < B ^ 8) := Lib.hid (by
          rw [← HV2.out, sgn_abs]
          exact Nat.lt_of_le_of_lt (by omega) (Nat.lt_of_lt_of_le (val_lt L2.out.1) (Nat.pow_le_pow_right B_pos (by omega : vs.length ≤ 8))))
        clear hv2 hl2 hg2 hO2
        go_wp2_with fail
        refine (made_c _ _ os2 _ _ _ HO2.out.toLim HL2.out.symm (by rw [HL2.out]; exact q1) q2).mono ?_
        rintro e w3 ⟨A3, c3, rfl, r1, r2, r3, ⟨x5, rfl⟩⟩
        rw [HV2.out] at r1 r3 ⊢
        have R1 := Lib.hid r1
        have R3 := Lib.hid r3
        clear r1 r3
        go_wp2_with fail
        go_returns
        refine ⟨A3, c3, N, true, rfl, by simp [HAB.out], by rw [if_pos HAB.out], R1.out, r2, ?_, ?_⟩
        · have q := R3.out
          simp only [plus_add] at q ⊢
          exact q.res
        · repeat' (first | exact Plus.refl _ | refine Plus.alloc ?_ _ | refine Plus.plus ?_ _ | refine Plus.drew ?_ | refine Plus.drewN ?_ _)
      · obtain ⟨z, hz, hz0⟩ := cmpI_ge hge
        have HE := Lib.hid hz
        have HLT := Lib.hid hge
        have HPZ : Hid (0 < val us ∨ 0 < val vs) := Lib.hid (by
          have e1 := hup.out
          have e2 := hvp.out
          cases pb <;> cases qb <;> simp at hbb e1 e2
          · exact .inr e2
          · exact .inl e1)
        clear hz hge
        have hzd : decide (z < 0) = false := by simpa using hz0
        have HP := Lib.hid (pos_of_val (xs := us) (by have := HLT.out; have := HPZ.out; omega))
        go_upto_region 6 with (go_at_call 206; (with_reducible refine (compare_i _ _ us vs _ _ _ _ (by first | exact L1.out | exact Lim.drew L1.out | (have q := L1.out; simp only [plus_drew] at q; exact q) | (have q := L1.out; simp only [plus_drew, size_plus, World.size_alloc, Nat.add_assoc] at q ⊢; exact q) | (have q := L1.out; simp only [plus_drew, size_plus, World.size_alloc, Nat.add_assoc] at q; exact q)) (by first | exact L2.out | exact Lim.drew L2.out | (have q := L2.out; simp only [plus_drew] at q; exact q) | (have q := L2.out; simp only [plus_drew, size_plus, World.size_alloc, Nat.add_assoc] at q ⊢; exact q) | (have q := L2.out; simp only [plus_drew, size_plus, World.size_alloc, Nat.add_assoc] at q; exact q)) rfl (by omega) (by omega)).mono ?_); rintro e w1 ⟨rfl, rfl⟩; rw [HE.out])
        go_wp2_with fail
        refine (clone_c _ us _ _ _ (by have q := L1.out; exact q.box33 (isBox.mk _ _ _ _ _) (isBox.mk _ _ _ _ _) (isBox.mk _ _ _ _ _)) rfl (by omega)).mono ?_
        rintro e w1 ⟨v, rfl, hown, hB1⟩
        obtain ⟨g, c2, rfl, q1, q2, q3, q4⟩ := own_of_own L1.out.1 hown HP.out
        obtain ⟨x3, rfl⟩ := Plus.of_below hB1
        have Q3 := Lib.hid q3
        have Q4 := Lib.hid q4
        have HB1 := Lib.hid hB1
        clear q3 q4 hown hB1
        go_wp2_with fail
        refine (subtract_i g _ us vs _ _ _ _ Q4.out (by have q := L2.out; exact (q.box33 (isBox.mk _ _ _ _ _) (isBox.mk _ _ _ _ _) (isBox.mk _ _ _ _ _)).grow _) rfl (fun h0 ad e => ?_) (by have := HLT.out; omega) (by omega)).mono ?_
        · have q := L2.out
          obtain ⟨ad', e', hlt, _⟩ := (Lim.box33 (o1 := .cells #[.bool pb, .slice A1 us.length c1] 26) (o2 := .cells #[.bool qb, .slice C1 vs.length d1] 26) (o3 := .cells #[.bool false, .slice none 0 0] 26) (p1 := .cells #[.bool pb, .slice A1 us.length c1] 26) (p2 := .cells #[.bool qb, .slice C1 vs.length d1] 26) (p3 := .cells #[.bool false, .slice none 0 0] 26) q (isBox.mk _ _ _ _ _) (isBox.mk _ _ _ _ _) (isBox.mk _ _ _ _ _)).2 h0
          rw [e] at e'
          injection e' with e'
          subst e'
          have := Q3.out
          simp only [size_plus, World.size_alloc] at this hlt
          omega
        rintro e w2 ⟨os2, rfl, hO2, hv2, hl2, hg2⟩
        obtain ⟨x4, rfl⟩ := Plus.of_below (HB1.out.grown hg2 HB1.out.size (fun k e => by injection e with e; subst e; exact Q3.out))
        have HV2 : Hid (sgn pb (val os2) = N) := Lib.hid (by rw [← hN.out]; have := HLT.out; cases pb <;> cases qb <;> simp [sgn] at hbb ⊢ <;> omega)
        have HO2 := Lib.hid hO2
        have HL2 := Lib.hid hl2
        have HAB : Hid (N.natAbs < B ^ 8) := Lib.hid (by
          rw [← HV2.out, sgn_abs]
          exact Nat.lt_of_le_of_lt (by omega) (Nat.lt_of_lt_of_le (val_lt L1.out.1) (Nat.pow_le_pow_right B_pos (by omega : us.length ≤ 8))))
        clear hv2 hl2 hg2 hO2
        go_wp2_with fail
        refine (made_c _ _ os2 _ _ _ HO2.out.toLim HL2.out.symm (by rw [HL2.out]; exact q1) q2).mono ?_
        rintro e w3 ⟨A3, c3, rfl, r1, r2, r3, ⟨x5, rfl⟩⟩
        rw [HV2.out] at r1 r3 ⊢
        have R1 := Lib.hid r1
        have R3 := Lib.hid r3
        clear r1 r3
        go_wp2_with fail
        go_returns
        refine ⟨A3, c3, N, true, rfl, by simp [HAB.out], by rw [if_pos HAB.out], R1.out, r2, ?_, ?_⟩
        · have q := R3.out
          simp only [plus_add] at q ⊢
          exact q.res
        · repeat' (first | exact Plus.refl _ | refine Plus.alloc ?_ _ | refine Plus.plus ?_ _ | refine Plus.drew ?_ | refine Plus.drewN ?_ _)

end Go.Proofs.YtakahpbondaidaaGreatDoor.Bg
namespace Go.Proofs.YtakahpbondaidaaGreatDoor.Bg
open Go.RowKit

/-- A number and no error; or, where b is zero, zero and the error 4. -/
def RetBigE (n : Int) (b : Nat) (w : World) (e : Ending) (w' : World) : Prop :=
  ∃ (A : Option Addr) (c : Nat) (m : Int) (er : Int), e = .returned (.tuple #[.agg #[.bool (decide (m < 0)), .slice A (dig m.natAbs).length c], .int .i64 er]) ∧ er = (if b = 0 then 4 else 0) ∧ m = (if b = 0 then 0 else n) ∧ (dig m.natAbs).length ≤ c ∧ c ≤ 9223372036854775807 ∧ Lim w' A (dig m.natAbs) ∧ Plus w w'
theorem RetBigE.zero {n : Int} {b : Nat} {w w' : World} (h : b = 0) (hp : Plus w w') : RetBigE n b w (.returned (.tuple #[.agg #[.bool false, .slice none 0 0], .int .i64 4])) w' := by
  refine ⟨none, 0, 0, 4, by rw [show (0 : Int).natAbs = 0 from rfl, dig_zero]; rfl, by rw [if_pos h], by rw [if_pos h], by rw [show (0 : Int).natAbs = 0 from rfl, dig_zero]; exact Nat.le_refl _, by omega, by rw [show (0 : Int).natAbs = 0 from rfl, dig_zero]; exact Lim.nil, hp⟩

set_option maxRecDepth 100000 in
set_option maxHeartbeats 8000000 in
theorem div_h (an bn pb qb : Bool) (A C : Option Addr) (xs ys us vs : List Nat) (n c m d : Nat) (w : World) (ha : Hid (Arg w A xs n c)) (hb : Hid (Arg w C ys m d)) (h1 : Hid (decide (bigI an xs < 0) = pb ∧ dig (bigI an xs).natAbs = us)) (h2 : Hid (decide (bigI bn ys < 0) = qb ∧ dig (bigI bn ys).natAbs = vs)) (hu : us.length ≤ 8) (hv : vs.length ≤ 8) :
    Calls Tryz.prog 157 #[.agg #[.bool an, .slice A n c], .agg #[.bool bn, .slice C m d]] w (RetBigE (sgn (!pb == qb) (val us / val vs)) (val vs) w) := by
  go_enter Tryz.func157, Tryz.ntmps157
  go_upto_region 1 with fail
  go_cut [] (fun wx => ∃ A1 c1 C1 d1 x1 x2, wx = _root_.Go.Proofs.YtakahpbondaidaaGreatDoor.plus (_root_.Go.Proofs.YtakahpbondaidaaGreatDoor.plus (((w.alloc (.cells #[.bool pb, .slice A1 us.length c1] 26)).alloc (.cells #[.bool qb, .slice C1 vs.length d1] 26)).alloc (.cells #[.bool false, .slice none 0 0] 26)) x1) x2 ∧ Lim wx A1 us ∧ Lim wx C1 vs ∧ us.length ≤ c1 ∧ c1 ≤ 9223372036854775807 ∧ vs.length ≤ d1 ∧ d1 ≤ 9223372036854775807)
  case first =>
    go_region_with (first | (go_at_call_of 118 (Value.agg #[.bool an, .slice A n c]); (with_reducible refine (valid_h h1 _ (ha.out.plus (by repeat' (first | exact Plus.refl _ | refine Plus.alloc ?_ _ | refine Plus.plus ?_ _ | refine Plus.drew ?_ | refine Plus.drewN ?_ _)))).mono ?_); rintro e w1 ⟨A1, c1, rfl, q1, q2, q3, ⟨x1, rfl⟩⟩; have Q3 := Lib.hid q3; have Q1 := Lib.hid q1; have Q2 := Lib.hid q2; clear q3 q1 q2) | (go_at_call_of 118 (Value.agg #[.bool bn, .slice C m d]); (with_reducible refine (valid_h h2 _ (hb.out.plus (by repeat' (first | exact Plus.refl _ | refine Plus.alloc ?_ _ | refine Plus.plus ?_ _ | refine Plus.drew ?_ | refine Plus.drewN ?_ _)))).mono ?_); rintro e w1 ⟨C1, d1, rfl, r1, r2, r3, ⟨y1, rfl⟩⟩; have R3 := Lib.hid r3; have R1 := Lib.hid r1; have R2 := Lib.hid r2; clear r3 r1 r2))
    all_goals
      go_wp2_with fail
      go_meet
      have Q4 := Q3.out
      have R4 := R3.out
      simp only [plus_drew] at Q4 R4
      refine ⟨A1, c1, C1, d1, _, _, rfl, ?_, ?_, Q1.out, Q2.out, R1.out, R2.out⟩
      all_goals first | with_reducible exact (Q4.box3 (isBox.mk _ _ _ _ _) (isBox.mk _ _ _ _ _) (isBox.mk _ _ _ _ _)).grow _ | with_reducible exact Q4.box33 (isBox.mk _ _ _ _ _) (isBox.mk _ _ _ _ _) (isBox.mk _ _ _ _ _) | with_reducible exact (R4.box3 (isBox.mk _ _ _ _ _) (isBox.mk _ _ _ _ _) (isBox.mk _ _ _ _ _)).grow _ | with_reducible exact R4.box33 (isBox.mk _ _ _ _ _) (isBox.mk _ _ _ _ _) (isBox.mk _ _ _ _ _)
  case rest =>
    obtain ⟨A1, c1, C1, d1, x1, x2, rfl, hL1, hL2, k1, k2, k3, k4⟩ := hcut
    have L1 := Lib.hid hL1
    have L2 := Lib.hid hL2
    clear hL1 hL2
    by_cases h0 : vs.length = 0
    · have hz : val vs = 0 := by rw [List.eq_nil_of_length_eq_zero h0]; rfl
      have HZ := Lib.hid hz
      clear hz
      rw [h0]
      go_wp2_with fail
      go_returns
      exact RetBigE.zero HZ.out (by repeat' (first | exact Plus.refl _ | refine Plus.alloc ?_ _ | refine Plus.plus ?_ _ | refine Plus.drew ?_ | refine Plus.drewN ?_ _))
    · have h0b : ((vs.length : Int) == 0) = false := by simpa using h0
      have hpos : 0 < val vs := by
        rcases Nat.eq_zero_or_pos (val vs) with hz | hz
        · rw [← h2.out.2, val_dig] at hz
          rw [← h2.out.2, hz, dig_zero] at h0
          exact absurd rfl h0
        · exact hz
      have HP := Lib.hid hpos
      clear hpos
      go_wp2_with (go_at_call 225; (with_reducible refine (divide_c _ _ us vs _ _ _ (by first | exact L1.out | exact Lim.drew L1.out | (have q := L1.out; simp only [plus_drew] at q; exact q) | (have q := L1.out; simp only [plus_drew, size_plus, World.size_alloc, Nat.add_assoc] at q ⊢; exact q) | (have q := L1.out; simp only [plus_drew, size_plus, World.size_alloc, Nat.add_assoc] at q; exact q)) (by first | exact L2.out | exact Lim.drew L2.out | (have q := L2.out; simp only [plus_drew] at q; exact q) | (have q := L2.out; simp only [plus_drew, size_plus, World.size_alloc, Nat.add_assoc] at q ⊢; exact q) | (have q := L2.out; simp only [plus_drew, size_plus, World.size_alloc, Nat.add_assoc] at q; exact q)) (by omega) (by omega) HP.out).mono ?_); rintro e w1 ⟨os, rs, rfl, q1, q2, q3, q4, q5, q6, hB1⟩; obtain ⟨x3, rfl⟩ := Plus.of_below hB1; have Q1 := Lib.hid q1; have Q2 := Lib.hid q2; have Q3 := Lib.hid q3; have Q4 := Lib.hid q4; have Q5 := Lib.hid q5; have Q6 := Lib.hid q6; clear q1 q2 q3 q4 q5 q6 hB1)
      refine (made_c _ _ os _ _ _ (by have q := Q1.out.toLim; simp only [size_plus, World.size_alloc] at q; exact q) rfl (Nat.le_refl _) (by have := Q5.out; omega)).mono ?_
      rintro e w1 ⟨A3, c3, rfl, r1, r2, r3, ⟨x4, rfl⟩⟩
      rw [Q3.out] at r1 r3 ⊢
      have R1 := Lib.hid r1
      have R3 := Lib.hid r3
      clear r1 r3
      go_wp2_with fail
      go_returns
      refine ⟨A3, c3, _, 0, rfl, by rw [if_neg (Nat.ne_of_gt HP.out)], by rw [if_neg (Nat.ne_of_gt HP.out)], R1.out, r2, ?_, ?_⟩
      · have q := R3.out
        simp only [plus_add] at q ⊢
        exact q.res
      · repeat' (first | exact Plus.refl _ | refine Plus.alloc ?_ _ | refine Plus.plus ?_ _ | refine Plus.drew ?_ | refine Plus.drewN ?_ _)

end Go.Proofs.YtakahpbondaidaaGreatDoor.Bg
namespace Go.Proofs.YtakahpbondaidaaGreatDoor.Bg
open Go.RowKit

theorem sgn_self (a : Int) : sgn (decide (a < 0)) a.natAbs = a := by
  by_cases h : a < 0
  · simp [h, sgn]; omega
  · simp [h, sgn]; omega
theorem add_c {an bn : Bool} {A C : Option Addr} {xs ys : List Nat} {n c m d : Nat} (w : World) (ha : Arg w A xs n c) (hb : Arg w C ys m d) : Calls Tryz.prog 153 #[.agg #[.bool an, .slice A n c], .agg #[.bool bn, .slice C m d]] w (RetBigOk (bigI an xs + bigI bn ys) w) := by
  refine add_h an bn _ _ A C xs ys _ _ n c m d w (Lib.hid ha) (Lib.hid hb) (Lib.hid ⟨rfl, rfl⟩) (Lib.hid ⟨rfl, rfl⟩) (dig_len_le (bigI_abs ha.lim.1)) (dig_len_le (bigI_abs hb.lim.1)) _ (Lib.hid ?_) (Lib.hid ?_) (Lib.hid ?_)
  · rw [val_dig, val_dig, sgn_self, sgn_self]
  · intro h
    rw [val_dig]
    have := of_decide_eq_true h
    omega
  · intro h
    rw [val_dig]
    have := of_decide_eq_true h
    omega
theorem sgn_div (a b : Int) : sgn (!decide (a < 0) == decide (b < 0)) (a.natAbs / b.natAbs) = a.tdiv b := by
  rcases Int.lt_or_le a 0 with h1 | h1 <;> rcases Int.lt_or_le b 0 with h2 | h2
  · have e1 : decide (a < 0) = true := by simpa using h1
    have e2 : decide (b < 0) = true := by simpa using h2
    rw [e1, e2, show (!(true == true)) = false from rfl]
    show ((a.natAbs / b.natAbs : Nat) : Int) = a.tdiv b
    rw [Int.natCast_ediv, show ((a.natAbs : Nat) : Int) = -a by omega, show ((b.natAbs : Nat) : Int) = -b by omega, ← Int.tdiv_eq_ediv_of_nonneg (by omega), Int.neg_tdiv, Int.tdiv_neg, Int.neg_neg]
  · have e1 : decide (a < 0) = true := by simpa using h1
    have e2 : decide (b < 0) = false := by simpa using h2
    rw [e1, e2, show (!(true == false)) = true from rfl]
    show -((a.natAbs / b.natAbs : Nat) : Int) = a.tdiv b
    rw [Int.natCast_ediv, show ((a.natAbs : Nat) : Int) = -a by omega, show ((b.natAbs : Nat) : Int) = b by omega, ← Int.tdiv_eq_ediv_of_nonneg (by omega), Int.neg_tdiv, Int.neg_neg]
  · have e1 : decide (a < 0) = false := by simpa using h1
    have e2 : decide (b < 0) = true := by simpa using h2
    rw [e1, e2, show (!(false == true)) = true from rfl]
    show -((a.natAbs / b.natAbs : Nat) : Int) = a.tdiv b
    rw [Int.natCast_ediv, show ((a.natAbs : Nat) : Int) = a by omega, show ((b.natAbs : Nat) : Int) = -b by omega, ← Int.tdiv_eq_ediv_of_nonneg h1, Int.tdiv_neg, Int.neg_neg]
  · have e1 : decide (a < 0) = false := by simpa using h1
    have e2 : decide (b < 0) = false := by simpa using h2
    rw [e1, e2, show (!(false == false)) = false from rfl]
    show ((a.natAbs / b.natAbs : Nat) : Int) = a.tdiv b
    rw [Int.natCast_ediv, show ((a.natAbs : Nat) : Int) = a by omega, show ((b.natAbs : Nat) : Int) = b by omega, ← Int.tdiv_eq_ediv_of_nonneg h1]
/-- A number and no error; or, where b is zero, zero and the error 4. -/
theorem div_c {an bn : Bool} {A C : Option Addr} {xs ys : List Nat} {n c m d : Nat} (w : World) (ha : Arg w A xs n c) (hb : Arg w C ys m d) : Calls Tryz.prog 157 #[.agg #[.bool an, .slice A n c], .agg #[.bool bn, .slice C m d]] w (RetBigE ((bigI an xs).tdiv (bigI bn ys)) (bigI bn ys).natAbs w) := by
  have h := div_h an bn _ _ A C xs ys _ _ n c m d w (Lib.hid ha) (Lib.hid hb) (Lib.hid ⟨rfl, rfl⟩) (Lib.hid ⟨rfl, rfl⟩) (dig_len_le (bigI_abs ha.lim.1)) (dig_len_le (bigI_abs hb.lim.1))
  rw [val_dig, val_dig, sgn_div] at h
  exact h
section
variable {pb : Bool} {us : List Nat} {r : Int}
theorem RetBigE.n {s er : Int} {b : Nat} (her : er = if b = 0 then 4 else 0) (hs : r = if b = 0 then 0 else s) (hr : Nm r pb us) {w w' : World} {e : Ending} (h : RetBigE s b w e w') : ∃ (A1 : Option Addr) (c1 : Nat), e = .returned (.tuple #[.agg #[.bool pb, .slice A1 us.length c1], .int .i64 er]) ∧ Arg w' A1 us us.length c1 ∧ Plus w w' := by
  obtain ⟨A1, c1, m, o, rfl, p1, p2, q1, q2, q3, q4⟩ := h
  rw [← hs] at p2
  rw [← her] at p1
  subst p1 p2
  have ha := hr.arg q1 q2 q3
  obtain ⟨rfl, rfl, _⟩ := hr
  exact ⟨A1, c1, rfl, ha, q4⟩
theorem add_n {an bn : Bool} {A C : Option Addr} {xs ys : List Nat} {n c m d : Nat} {a b : Int} (hA : Hid (bigI an xs = a)) (hB : Hid (bigI bn ys = b)) {ok : Bool} (hr : Hid (AddN a b r ok pb us)) (w : World) (ha : Arg w A xs n c) (hb : Arg w C ys m d) : Calls Tryz.prog 153 #[.agg #[.bool an, .slice A n c], .agg #[.bool bn, .slice C m d]] w fun e w' => ∃ (A1 : Option Addr) (c1 : Nat), e = .returned (.tuple #[.agg #[.bool pb, .slice A1 us.length c1], .bool ok]) ∧ Arg w' A1 us us.length c1 ∧ Plus w w' := by
  obtain ⟨h1, h2, h3⟩ := hr.out
  have h := add_c (an := an) (bn := bn) w ha hb
  rw [hA.out, hB.out] at h
  exact h.mono fun _ _ h => h.n h2 h3 h1
theorem div_n {an bn : Bool} {A C : Option Addr} {xs ys : List Nat} {n c m d : Nat} {a b : Int} (hA : Hid (bigI an xs = a)) (hB : Hid (bigI bn ys = b)) {er : Int} (hr : Hid (DivN a b r er pb us)) (w : World) (ha : Arg w A xs n c) (hb : Arg w C ys m d) : Calls Tryz.prog 157 #[.agg #[.bool an, .slice A n c], .agg #[.bool bn, .slice C m d]] w fun e w' => ∃ (A1 : Option Addr) (c1 : Nat), e = .returned (.tuple #[.agg #[.bool pb, .slice A1 us.length c1], .int .i64 er]) ∧ Arg w' A1 us us.length c1 ∧ Plus w w' := by
  obtain ⟨h1, h2, h3⟩ := hr.out
  have h := div_c (an := an) (bn := bn) w ha hb
  rw [hA.out, hB.out] at h
  exact h.mono fun _ _ h => h.n h2 h3 h1
end
end Go.Proofs.YtakahpbondaidaaGreatDoor.Bg
