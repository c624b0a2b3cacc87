/- big: Mul, Add. -/
import Derived.Test.YtgljfgkkolfnbaaGreatDoorGY
import Derived.Test.YtgljfgkkolfnbaaGreatDoorGZ
namespace Go.Proofs.YtgljfgkkolfnbaaGreatDoor.Bg
open Go.RowKit

set_option maxRecDepth 100000 in
set_option maxHeartbeats 8000000 in
theorem mul_h (an bn pb qb : Bool) (A C : Option Addr) (xs ys us vs : List Nat) (n c m d : Nat) (w : World) (ha : Hid (Arg w A xs n c)) (hb : Hid (Arg w C ys m d)) (h1 : Hid (decide (bigI an xs < 0) = pb ∧ dig (bigI an xs).natAbs = us)) (h2 : Hid (decide (bigI bn ys < 0) = qb ∧ dig (bigI bn ys).natAbs = vs)) (hu : us.length ≤ 8) (hv : vs.length ≤ 8) :
    Calls Tryz.prog 94 #[.agg #[.bool an, .slice A n c], .agg #[.bool bn, .slice C m d]] w (RetBigOk (sgn (!pb == qb) (val us * val vs)) w) := by
  go_enter Tryz.func94, Tryz.ntmps94
  go_upto_region 1 with fail
  go_cut [] (fun wx => ∃ A1 c1 C1 d1 x1 x2, wx = _root_.Go.Proofs.YtgljfgkkolfnbaaGreatDoor.plus (_root_.Go.Proofs.YtgljfgkkolfnbaaGreatDoor.plus (((w.alloc (.cells #[.bool pb, .slice A1 us.length c1] 26)).alloc (.cells #[.bool qb, .slice C1 vs.length d1] 26)).alloc (.cells #[.bool false, .slice none 0 0] 26)) x1) x2 ∧ Lim wx A1 us ∧ Lim wx C1 vs ∧ us.length ≤ c1 ∧ c1 ≤ 9223372036854775807 ∧ vs.length ≤ d1 ∧ d1 ≤ 9223372036854775807)
  case first =>
    go_region_with (first | (go_at_call_of 135 (Value.agg #[.bool an, .slice A n c]); (with_reducible refine (valid_h h1 _ (ha.out.plus (by repeat' (first | exact Plus.refl _ | refine Plus.alloc ?_ _ | refine Plus.plus ?_ _ | refine Plus.drew ?_ | refine Plus.drewN ?_ _)))).mono ?_); rintro e w1 ⟨A1, c1, rfl, q1, q2, q3, ⟨x1, rfl⟩⟩; have Q3 := Lib.hid q3; have Q1 := Lib.hid q1; have Q2 := Lib.hid q2; clear q3 q1 q2) | (go_at_call_of 135 (Value.agg #[.bool bn, .slice C m d]); (with_reducible refine (valid_h h2 _ (hb.out.plus (by repeat' (first | exact Plus.refl _ | refine Plus.alloc ?_ _ | refine Plus.plus ?_ _ | refine Plus.drew ?_ | refine Plus.drewN ?_ _)))).mono ?_); rintro e w1 ⟨C1, d1, rfl, r1, r2, r3, ⟨y1, rfl⟩⟩; have R3 := Lib.hid r3; have R1 := Lib.hid r1; have R2 := Lib.hid r2; clear r3 r1 r2))
    all_goals
      go_wp2_with fail
      go_meet
      have Q4 := Q3.out
      have R4 := R3.out
      simp only [plus_drew] at Q4 R4
      refine ⟨A1, c1, C1, d1, _, _, rfl, ?_, ?_, Q1.out, Q2.out, R1.out, R2.out⟩
      all_goals first | with_reducible exact (Q4.box3 (isBox.mk _ _ _ _ _) (isBox.mk _ _ _ _ _) (isBox.mk _ _ _ _ _)).grow _ | with_reducible exact Q4.box33 (isBox.mk _ _ _ _ _) (isBox.mk _ _ _ _ _) (isBox.mk _ _ _ _ _) | with_reducible exact (R4.box3 (isBox.mk _ _ _ _ _) (isBox.mk _ _ _ _ _) (isBox.mk _ _ _ _ _)).grow _ | with_reducible exact R4.box33 (isBox.mk _ _ _ _ _) (isBox.mk _ _ _ _ _) (isBox.mk _ _ _ _ _)
  case rest =>
    obtain ⟨A1, c1, C1, d1, x1, x2, rfl, hL1, hL2, k1, k2, k3, k4⟩ := hcut
    have L1 := Lib.hid hL1
    have L2 := Lib.hid hL2
    clear hL1 hL2
    go_upto_region 2 with fail
    go_region_held3 (fun w' => w'.cell? ⟨w.heap.size, 0, none⟩ = some (.bool pb) ∧ w'.cell? ⟨w.heap.size, 1, none⟩ = some (.slice A1 us.length c1) ∧ w'.cell? ⟨w.heap.size + 1, 0, none⟩ = some (.bool qb) ∧ w'.cell? ⟨w.heap.size + 1, 1, none⟩ = some (.slice C1 vs.length d1)) (refine ⟨?_, ?_, ?_, ?_⟩ <;> simp [go_sem]) (first | (go_at_call 156; (with_reducible refine (product_c _ _ us vs _ _ _ (by first | exact L1.out | exact Lim.drew L1.out | (have q := L1.out; simp only [plus_drew] at q; exact q) | (have q := L1.out; simp only [plus_drew, size_plus, World.size_alloc, Nat.add_assoc] at q ⊢; exact q) | (have q := L1.out; simp only [plus_drew, size_plus, World.size_alloc, Nat.add_assoc] at q; exact q)) (by first | exact L2.out | exact Lim.drew L2.out | (have q := L2.out; simp only [plus_drew] at q; exact q) | (have q := L2.out; simp only [plus_drew, size_plus, World.size_alloc, Nat.add_assoc] at q ⊢; exact q) | (have q := L2.out; simp only [plus_drew, size_plus, World.size_alloc, Nat.add_assoc] at q; exact q)) (by omega) (by omega)).mono ?_); rintro e w1 ⟨g, os, rfl, _, q3, q4, q5, hB1⟩; obtain ⟨x3, rfl⟩ := Plus.of_below hB1; have Q3 := Lib.hid q3; have Q4 := Lib.hid q4; have Q5 := Lib.hid q5; clear q3 q4 q5 hB1) | (go_at_call 152; (with_reducible refine (fitting_c _ _ os _ _ _ (by first | exact Q3.out.toLim | exact Lim.drew Q3.out.toLim | (have q := Q3.out.toLim; simp only [plus_drew] at q; exact q) | (have q := Q3.out.toLim; simp only [plus_drew, size_plus, World.size_alloc, Nat.add_assoc] at q ⊢; exact q) | (have q := Q3.out.toLim; simp only [plus_drew, size_plus, World.size_alloc, Nat.add_assoc] at q; exact q)) rfl (Nat.le_refl _) (by have := Q5.out; omega)).mono ?_); rintro e w1 ⟨A3, c3, z, ok, rfl, r1, r2, r3, r4, r5, ⟨x4, rfl⟩⟩; have R1 := Lib.hid r1; have R2 := Lib.hid r2; have R3 := Lib.hid r3; have R5 := Lib.hid r5; clear r1 r2 r3 r5))
    all_goals
      go_wp2_with fail
      go_returns
      rw [← Q4.out]
      refine ⟨A3, c3, z, ok, rfl, R1.out, R2.out, R3.out, r4, ?_, ?_⟩
      · have q := R5.out
        simp only [plus_add] at q ⊢
        exact q.res
      · repeat' (first | exact Plus.refl _ | refine Plus.alloc ?_ _ | refine Plus.plus ?_ _ | refine Plus.drew ?_ | refine Plus.drewN ?_ _)

theorem pos_of_val {xs : List Nat} (h : 0 < val xs) : 0 < xs.length := by
  rcases xs with _ | ⟨x, xs⟩
  · simp [val] at h
  · simp
theorem cmpI_ge' {a b : Nat} (h : b ≤ a) : decide (cmpI a b < 0) = false := by
  obtain ⟨z, hz, h0⟩ := cmpI_ge h
  rw [hz]; simpa using h0

set_option maxRecDepth 100000 in
set_option maxHeartbeats 8000000 in
theorem add_h (an bn pb qb : Bool) (A C : Option Addr) (xs ys us vs : List Nat) (n c m d : Nat) (w : World) (ha : Hid (Arg w A xs n c)) (hb : Hid (Arg w C ys m d)) (h1 : Hid (decide (bigI an xs < 0) = pb ∧ dig (bigI an xs).natAbs = us)) (h2 : Hid (decide (bigI bn ys < 0) = qb ∧ dig (bigI bn ys).natAbs = vs)) (hu : us.length ≤ 8) (hv : vs.length ≤ 8) (N : Int) (hN : Hid (sgn pb (val us) + sgn qb (val vs) = N)) (hup : Hid (pb = true → 0 < val us)) (hvp : Hid (qb = true → 0 < val vs)) :
    Calls Tryz.prog 92 #[.agg #[.bool an, .slice A n c], .agg #[.bool bn, .slice C m d]] w (RetBigOk N w) := by
  go_enter Tryz.func92, Tryz.ntmps92
  go_upto_region 1 with fail
  go_cut [] (fun wx => ∃ A1 c1 C1 d1 x1 x2, wx = _root_.Go.Proofs.YtgljfgkkolfnbaaGreatDoor.plus (_root_.Go.Proofs.YtgljfgkkolfnbaaGreatDoor.plus (((w.alloc (.cells #[.bool pb, .slice A1 us.length c1] 26)).alloc (.cells #[.bool qb, .slice C1 vs.length d1] 26)).alloc (.cells #[.bool false, .slice none 0 0] 26)) x1) x2 ∧ Lim wx A1 us ∧ Lim wx C1 vs ∧ us.length ≤ c1 ∧ c1 ≤ 9223372036854775807 ∧ vs.length ≤ d1 ∧ d1 ≤ 9223372036854775807)
  case first =>
    go_region_with (first | (go_at_call_of 135 (Value.agg #[.bool an, .slice A n c]); (with_reducible refine (valid_h h1 _ (ha.out.plus (by repeat' (first | exact Plus.refl _ | refine Plus.alloc ?_ _ | refine Plus.plus ?_ _ | refine Plus.drew ?_ | refine Plus.drewN ?_ _)))).mono ?_); rintro e w1 ⟨A1, c1, rfl, q1, q2, q3, ⟨x1, rfl⟩⟩; have Q3 := Lib.hid q3; have Q1 := Lib.hid q1; have Q2 := Lib.hid q2; clear q3 q1 q2) | (go_at_call_of 135 (Value.agg #[.bool bn, .slice C m d]); (with_reducible refine (valid_h h2 _ (hb.out.plus (by repeat' (first | exact Plus.refl _ | refine Plus.alloc ?_ _ | refine Plus.plus ?_ _ | refine Plus.drew ?_ | refine Plus.drewN ?_ _)))).mono ?_); rintro e w1 ⟨C1, d1, rfl, r1, r2, r3, ⟨y1, rfl⟩⟩; have R3 := Lib.hid r3; have R1 := Lib.hid r1; have R2 := Lib.hid r2; clear r3 r1 r2))
    all_goals
      go_wp2_with fail
      go_meet
      have Q4 := Q3.out
      have R4 := R3.out
      simp only [plus_drew] at Q4 R4
      refine ⟨A1, c1, C1, d1, _, _, rfl, ?_, ?_, Q1.out, Q2.out, R1.out, R2.out⟩
      all_goals first | with_reducible exact (Q4.box3 (isBox.mk _ _ _ _ _) (isBox.mk _ _ _ _ _) (isBox.mk _ _ _ _ _)).grow _ | with_reducible exact Q4.box33 (isBox.mk _ _ _ _ _) (isBox.mk _ _ _ _ _) (isBox.mk _ _ _ _ _) | with_reducible exact (R4.box3 (isBox.mk _ _ _ _ _) (isBox.mk _ _ _ _ _) (isBox.mk _ _ _ _ _)).grow _ | with_reducible exact R4.box33 (isBox.mk _ _ _ _ _) (isBox.mk _ _ _ _ _) (isBox.mk _ _ _ _ _)
  case rest =>
    obtain ⟨A1, c1, C1, d1, x1, x2, rfl, hL1, hL2, k1, k2, k3, k4⟩ := hcut
    have L1 := Lib.hid hL1
    have L2 := Lib.hid hL2
    clear hL1 hL2
    by_cases hpq : pb = qb
    · subst hpq
      have hT : Hid (sgn pb (val us + val vs) = N) := Lib.hid (by rw [← hN.out]; cases pb <;> simp [sgn] <;> omega)
      have hbb : (pb == pb) = true := by simp
      have hab : Hid (N.natAbs = val us + val vs) := Lib.hid (by rw [← hT.out]; exact sgn_abs pb (val us + val vs))
      go_upto_region 3 with fail
      go_region_held3 (fun w' => w'.cell? ⟨w.heap.size, 0, none⟩ = some (.bool pb) ∧ w'.cell? ⟨w.heap.size, 1, none⟩ = some (.slice A1 us.length c1) ∧ w'.cell? ⟨w.heap.size + 1, 0, none⟩ = some (.bool pb) ∧ w'.cell? ⟨w.heap.size + 1, 1, none⟩ = some (.slice C1 vs.length d1)) (refine ⟨?_, ?_, ?_, ?_⟩ <;> simp [go_sem]) (first | (go_at_call 153; (with_reducible refine (sum_c _ _ us vs _ _ _ (by first | exact L1.out | exact Lim.drew L1.out | (have q := L1.out; simp only [plus_drew] at q; exact q) | (have q := L1.out; simp only [plus_drew, size_plus, World.size_alloc, Nat.add_assoc] at q ⊢; exact q) | (have q := L1.out; simp only [plus_drew, size_plus, World.size_alloc, Nat.add_assoc] at q; exact q)) (by first | exact L2.out | exact Lim.drew L2.out | (have q := L2.out; simp only [plus_drew] at q; exact q) | (have q := L2.out; simp only [plus_drew, size_plus, World.size_alloc, Nat.add_assoc] at q ⊢; exact q) | (have q := L2.out; simp only [plus_drew, size_plus, World.size_alloc, Nat.add_assoc] at q; exact q)) (by omega) (by omega)).mono ?_); rintro e w1 ⟨g, os, rfl, _, q3, q4, q5, hB1⟩; obtain ⟨x3, rfl⟩ := Plus.of_below hB1; have Q3 := Lib.hid q3; have Q4 := Lib.hid q4; have Q5 := Lib.hid q5; clear q3 q4 q5 hB1) | (go_at_call 152; (with_reducible refine (fitting_c _ _ os _ _ _ (by first | exact Q3.out.toLim | exact Lim.drew Q3.out.toLim | (have q := Q3.out.toLim; simp only [plus_drew] at q; exact q) | (have q := Q3.out.toLim; simp only [plus_drew, size_plus, World.size_alloc, Nat.add_assoc] at q ⊢; exact q) | (have q := Q3.out.toLim; simp only [plus_drew, size_plus, World.size_alloc, Nat.add_assoc] at q; exact q)) rfl (Nat.le_refl _) (by have := Q5.out; omega)).mono ?_); rintro e w1 ⟨A3, c3, z, ok, rfl, r1, r2, r3, r4, r5, ⟨x4, rfl⟩⟩; have R1 := Lib.hid r1; have R2 := Lib.hid r2; have R3 := Lib.hid r3; have R5 := Lib.hid r5; clear r1 r2 r3 r5))
      all_goals
        go_wp2_with fail
        go_returns
        rw [← hT.out]
        have r1 := R1.out
        have r2 := R2.out
        rw [Q4.out] at r1 r2
        refine ⟨A3, c3, z, ok, rfl, r1, r2, R3.out, r4, ?_, ?_⟩
        · have q := R5.out
          simp only [plus_add] at q ⊢
          exact q.res
        · repeat' (first | exact Plus.refl _ | refine Plus.alloc ?_ _ | refine Plus.plus ?_ _ | refine Plus.drew ?_ | refine Plus.drewN ?_ _)
    · have hbb : (pb == qb) = false := by simpa using hpq
      rcases Nat.lt_or_ge (val us) (val vs) with hlt | hge
      · have HE := Lib.hid (cmpI_lt hlt)
        have HLT := Lib.hid hlt
        clear hlt
        have HP := Lib.hid (pos_of_val (xs := vs) (by have := HLT.out; omega))
        go_upto_region 6 with (go_at_call 154; (with_reducible refine (compare_i _ _ us vs _ _ _ _ (by first | exact L1.out | exact Lim.drew L1.out | (have q := L1.out; simp only [plus_drew] at q; exact q) | (have q := L1.out; simp only [plus_drew, size_plus, World.size_alloc, Nat.add_assoc] at q ⊢; exact q) | (have q := L1.out; simp only [plus_drew, size_plus, World.size_alloc, Nat.add_assoc] at q; exact q)) (by first | exact L2.out | exact Lim.drew L2.out | (have q := L2.out; simp only [plus_drew] at q; exact q) | (have q := L2.out; simp only [plus_drew, size_plus, World.size_alloc, Nat.add_assoc] at q ⊢; exact q) | (have q := L2.out; simp only [plus_drew, size_plus, World.size_alloc, Nat.add_assoc] at q; exact q)) rfl (by omega) (by omega)).mono ?_); rintro e w1 ⟨rfl, rfl⟩; rw [HE.out])
        go_wp2_with fail
        refine (clone_c _ vs _ _ _ (by have q := L2.out; exact q.box33 (isBox.mk _ _ _ _ _) (isBox.mk _ _ _ _ _) (isBox.mk _ _ _ _ _)) rfl (by omega)).mono ?_
        rintro e w1 ⟨v, rfl, hown, hB1⟩
        obtain ⟨g, c2, rfl, q1, q2, q3, q4⟩ := own_of_own L2.out.1 hown HP.out
        obtain ⟨x3, rfl⟩ := Plus.of_below hB1
        have Q3 := Lib.hid q3
        have Q4 := Lib.hid q4
        have HB1 := Lib.hid hB1
        clear q3 q4 hown hB1
        go_wp2_with fail
        refine (subtract_i g _ vs us _ _ _ _ Q4.out (by have q := L1.out; exact (q.box33 (isBox.mk _ _ _ _ _) (isBox.mk _ _ _ _ _) (isBox.mk _ _ _ _ _)).grow _) rfl (fun h0 ad e => ?_) (by have := HLT.out; omega) (by omega)).mono ?_
        · have q := L1.out
          obtain ⟨ad', e', hlt, _⟩ := (Lim.box33 (o1 := .cells #[.bool pb, .slice A1 us.length c1] 26) (o2 := .cells #[.bool qb, .slice C1 vs.length d1] 26) (o3 := .cells #[.bool false, .slice none 0 0] 26) (p1 := .cells #[.bool pb, .slice A1 us.length c1] 26) (p2 := .cells #[.bool qb, .slice C1 vs.length d1] 26) (p3 := .cells #[.bool false, .slice none 0 0] 26) q (isBox.mk _ _ _ _ _) (isBox.mk _ _ _ _ _) (isBox.mk _ _ _ _ _)).2 h0
          rw [e] at e'
          injection e' with e'
          subst e'
          have := Q3.out
          simp only [size_plus, World.size_alloc] at this hlt
          omega
        rintro e w2 ⟨os2, rfl, hO2, hv2, hl2, hg2⟩
        obtain ⟨x4, rfl⟩ := Plus.of_below (HB1.out.grown hg2 HB1.out.size (fun k e => by injection e with e; subst e; exact Q3.out))
        have HV2 : Hid (sgn qb (val os2) = N) := Lib.hid (by rw [← hN.out]; have := HLT.out; cases pb <;> cases qb <;> simp [sgn] at hbb ⊢ <;> omega)
        have HO2 := Lib.hid hO2
        have HL2 := Lib.hid hl2
        have HAB : Hid (N.natAbs < B ^ 8) := Lib.hid (by
          rw [← HV2.out, sgn_abs]
          exact Nat.lt_of_le_of_lt (by omega) (Nat.lt_of_lt_of_le (val_lt L2.out.1) (Nat.pow_le_pow_right B_pos (by omega : vs.length ≤ 8))))
        clear hv2 hl2 hg2 hO2
        go_wp2_with fail
        refine (made_c _ _ os2 _ _ _ HO2.out.toLim HL2.out.symm (by rw [HL2.out]; exact q1) q2).mono ?_
        rintro e w3 ⟨A3, c3, rfl, r1, r2, r3, ⟨x5, rfl⟩⟩
        rw [HV2.out] at r1 r3 ⊢
        have R1 := Lib.hid r1
        have R3 := Lib.hid r3
        clear r1 r3
        go_wp2_with fail
        go_returns
        refine ⟨A3, c3, N, true, rfl, by simp [HAB.out], by rw [if_pos HAB.out], R1.out, r2, ?_, ?_⟩
        · have q := R3.out
          simp only [plus_add] at q ⊢
          exact q.res
        · repeat' (first | exact Plus.refl _ | refine Plus.alloc ?_ _ | refine Plus.plus ?_ _ | refine Plus.drew ?_ | refine Plus.drewN ?_ _)
      · obtain ⟨z, hz, hz0⟩ := cmpI_ge hge
        have HE := Lib.hid hz
        have HLT := Lib.hid hge
        have HPZ : Hid (0 < val us ∨ 0 < val vs) := Lib.hid (by
          have e1 := hup.out
          have e2 := hvp.out
          cases pb <;> cases qb <;> simp at hbb e1 e2
          · exact .inr e2
          · exact .inl e1)
        clear hz hge
        have hzd : decide (z < 0) = false := by simpa using hz0
        have HP := Lib.hid (pos_of_val (xs := us) (by have := HLT.out; have := HPZ.out; omega))
        go_upto_region 6 with (go_at_call 154; (with_reducible refine (compare_i _ _ us vs _ _ _ _ (by first | exact L1.out | exact Lim.drew L1.out | (have q := L1.out; simp only [plus_drew] at q; exact q) | (have q := L1.out; simp only [plus_drew, size_plus, World.size_alloc, Nat.add_assoc] at q ⊢; exact q) | (have q := L1.out; simp only [plus_drew, size_plus, World.size_alloc, Nat.add_assoc] at q; exact q)) (by first | exact L2.out | exact Lim.drew L2.out | (have q := L2.out; simp only [plus_drew] at q; exact q) | (have q := L2.out; simp only [plus_drew, size_plus, World.size_alloc, Nat.add_assoc] at q ⊢; exact q) | (have q := L2.out; simp only [plus_drew, size_plus, World.size_alloc, Nat.add_assoc] at q; exact q)) rfl (by omega) (by omega)).mono ?_); rintro e w1 ⟨rfl, rfl⟩; rw [HE.out])
        go_wp2_with fail
        refine (clone_c _ us _ _ _ (by have q := L1.out; exact q.box33 (isBox.mk _ _ _ _ _) (isBox.mk _ _ _ _ _) (isBox.mk _ _ _ _ _)) rfl (by omega)).mono ?_
        rintro e w1 ⟨v, rfl, hown, hB1⟩
        obtain ⟨g, c2, rfl, q1, q2, q3, q4⟩ := own_of_own L1.out.1 hown HP.out
        obtain ⟨x3, rfl⟩ := Plus.of_below hB1
        have Q3 := Lib.hid q3
        have Q4 := Lib.hid q4
        have HB1 := Lib.hid hB1
        clear q3 q4 hown hB1
        go_wp2_with fail
        refine (subtract_i g _ us vs _ _ _ _ Q4.out (by have q := L2.out; exact (q.box33 (isBox.mk _ _ _ _ _) (isBox.mk _ _ _ _ _) (isBox.mk _ _ _ _ _)).grow _) rfl (fun h0 ad e => ?_) (by have := HLT.out; omega) (by omega)).mono ?_
        · have q := L2.out
          obtain ⟨ad', e', hlt, _⟩ := (Lim.box33 (o1 := .cells #[.bool pb, .slice A1 us.length c1] 26) (o2 := .cells #[.bool qb, .slice C1 vs.length d1] 26) (o3 := .cells #[.bool false, .slice none 0 0] 26) (p1 := .cells #[.bool pb, .slice A1 us.length c1] 26) (p2 := .cells #[.bool qb, .slice C1 vs.length d1] 26) (p3 := .cells #[.bool false, .slice none 0 0] 26) q (isBox.mk _ _ _ _ _) (isBox.mk _ _ _ _ _) (isBox.mk _ _ _ _ _)).2 h0
          rw [e] at e'
          injection e' with e'
          subst e'
          have := Q3.out
          simp only [size_plus, World.size_alloc] at this hlt
          omega
        rintro e w2 ⟨os2, rfl, hO2, hv2, hl2, hg2⟩
        obtain ⟨x4, rfl⟩ := Plus.of_below (HB1.out.grown hg2 HB1.out.size (fun k e => by injection e with e; subst e; exact Q3.out))
        have HV2 : Hid (sgn pb (val os2) = N) := Lib.hid (by rw [← hN.out]; have := HLT.out; cases pb <;> cases qb <;> simp [sgn] at hbb ⊢ <;> omega)
        have HO2 := Lib.hid hO2
        have HL2 := Lib.hid hl2
        have HAB : Hid (N.natAbs < B ^ 8) := Lib.hid (by
          rw [← HV2.out, sgn_abs]
          exact Nat.lt_of_le_of_lt (by omega) (Nat.lt_of_lt_of_le (val_lt L1.out.1) (Nat.pow_le_pow_right B_pos (by omega : us.length ≤ 8))))
        clear hv2 hl2 hg2 hO2
        go_wp2_with fail
        refine (made_c _ _ os2 _ _ _ HO2.out.toLim HL2.out.symm (by rw [HL2.out]; exact q1) q2).mono ?_
        rintro e w3 ⟨A3, c3, rfl, r1, r2, r3, ⟨x5, rfl⟩⟩
        rw [HV2.out] at r1 r3 ⊢
        have R1 := Lib.hid r1
        have R3 := Lib.hid r3
        clear r1 r3
        go_wp2_with fail
        go_returns
        refine ⟨A3, c3, N, true, rfl, by simp [HAB.out], by rw [if_pos HAB.out], R1.out, r2, ?_, ?_⟩
        · have q := R3.out
          simp only [plus_add] at q ⊢
          exact q.res
        · repeat' (first | exact Plus.refl _ | refine Plus.alloc ?_ _ | refine Plus.plus ?_ _ | refine Plus.drew ?_ | refine Plus.drewN ?_ _)

end Go.Proofs.YtgljfgkkolfnbaaGreatDoor.Bg
