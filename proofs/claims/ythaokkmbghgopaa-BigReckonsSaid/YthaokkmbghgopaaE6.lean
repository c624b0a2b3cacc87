/- The document's BigInts: Rem. -/
import Derived.Test.YthaokkmbghgopaaE5
namespace Go.Proofs.Ythaokkmbghgopaa
open Go.RowKit


set_option maxRecDepth 100000 in
set_option maxHeartbeats 8000000 in
theorem rRem_y (an bn pb qb : Bool) (A C : Option Addr) (xs ys us vs : List Nat) (n c m d : Nat) (sb : Bool) (qs rs ws : List Nat) (R : Int) (hq : Hid (dig (val us / val vs) = qs ∧ dig (val us % val vs) = rs)) (hvp : Hid (0 < val vs)) (hnz : Hid (((vs.length : Int) == 0) = false)) (hts : Hid (rs.length ≤ 2097152)) (hR1 : Hid (sgn pb (val rs) = R)) (hR2 : Hid (decide (R < 0) = sb ∧ dig R.natAbs = ws)) (h1 : Hid (decide (bigI an xs < 0) = pb ∧ dig (bigI an xs).natAbs = us)) (h2 : Hid (decide (bigI bn ys < 0) = qb ∧ dig (bigI bn ys).natAbs = vs)) (hu : Hid (us.length ≤ 8)) (hv : Hid (vs.length ≤ 8)) (w : World) (ha : Hid (Arg w A xs n c)) (hb : Hid (Arg w C ys m d)) :
    Calls Try.prog 27 #[.agg #[.bool an, .slice A n c], .agg #[.bool bn, .slice C m d]] w fun e w' => ∃ (A1 : Option Addr) (c1 : Nat), e = .returned (.tuple #[.agg #[.bool sb, .slice A1 ws.length c1], .int .i64 0]) ∧ ws.length ≤ c1 ∧ c1 ≤ 9223372036854775807 ∧ Lim w' A1 ws ∧ Plus w w' := by
  go_enter Try.func27, Try.ntmps27
  go_upto_region 1 with fail
  go_cut [6, 7] (fun sa sb wx => ∃ b5 b6 A1 c1 C1 d1, sa = .pointer (some ⟨b5, 0, none⟩) ∧ sb = .pointer (some ⟨b6, 0, none⟩) ∧ Plus w wx ∧ BoxO wx (w.heap.size + 1 + 1) false none 0 0 ∧ BoxO wx b5 pb A1 us.length c1 ∧ BoxO wx b6 qb C1 vs.length d1 ∧ Arg wx A1 us us.length c1 ∧ Arg wx C1 vs vs.length d1)
  case first =>
    go_region_held3 (fun w' => w'.cell? ⟨w.heap.size, 0, none⟩ = some (.bool an) ∧ w'.cell? ⟨w.heap.size, 1, none⟩ = some (.slice A n c) ∧ w'.cell? ⟨w.heap.size + 1, 0, none⟩ = some (.bool bn) ∧ w'.cell? ⟨w.heap.size + 1, 1, none⟩ = some (.slice C m d)) (refine ⟨?_, ?_, ?_, ?_⟩ <;> simp [go_sem]) (first | (go_at_call_of 60 (Value.agg #[.bool an, .slice A n c]); (with_reducible refine (rgood_h h1 _ (by first | exact ha.out | (have q := ha.out; exact q.plus (by repeat' (first | exact Plus.refl _ | refine Plus.alloc ?_ _ | refine Plus.plus ?_ _ | refine Plus.drew ?_ | refine Plus.drewN ?_ _))))).mono ?_); rintro e w1 ⟨A1, c1, rfl, q1, q2, q3, ⟨xc1, rfl⟩⟩; have HNc1 := Lib.hid q3; have HLc1 := Lib.hid q1; have HCc1 := Lib.hid q2; clear q1 q2 q3) | (go_at_call_of 60 (Value.agg #[.bool bn, .slice C m d]); (with_reducible refine (rgood_h h2 _ (by first | exact hb.out | (have q := hb.out; exact q.plus (by repeat' (first | exact Plus.refl _ | refine Plus.alloc ?_ _ | refine Plus.plus ?_ _ | refine Plus.drew ?_ | refine Plus.drewN ?_ _))))).mono ?_); rintro e w1 ⟨C1, d1, rfl, q1, q2, q3, ⟨xd1, rfl⟩⟩; have HNd1 := Lib.hid q3; have HLd1 := Lib.hid q1; have HCd1 := Lib.hid q2; clear q1 q2 q3))
    all_goals (go_wp2_with fail; go_meet; refine ⟨_, _, A1, c1, C1, d1, rfl, rfl, ?_, ?_, ?_, ?_, ?_, ?_⟩)
    all_goals first | ((repeat' (first | exact Plus.refl _ | refine Plus.alloc ?_ _ | refine Plus.plus ?_ _ | refine Plus.drew ?_ | refine Plus.drewN ?_ _)); done) | ((repeat' (first | (refine BoxO.new' ?_; (simp [go_sem]; done)) | refine BoxO.alloc ?_ _ | refine BoxO.grow ?_ _ | refine BoxO.drew ?_)); done) | (refine ⟨?_, rfl, by have := hu.out; omega, HLc1.out, HCc1.out⟩; (have q := HNc1.out; (try simp only [plus_drew] at q); exact q.later (by repeat' (first | (refine Later.of_alt ?_; (repeat' (first | exact Alt.refl _ | refine Alt.grow ?_ _ | refine Alt.drewL ?_ | refine Alt.drewR ?_ | refine Alt.box ?_ (isBox.mk _ _ _ _ _) (isBox.mk _ _ _ _ _) | refine Alt.alloc ?_ _)); done) | refine Later.alloc ?_ _ | refine Later.grow ?_ _ | refine Later.drew ?_)))) | (refine ⟨?_, rfl, by have := hv.out; omega, HLd1.out, HCd1.out⟩; (have q := HNd1.out; (try simp only [plus_drew] at q); exact q.later (by repeat' (first | (refine Later.of_alt ?_; (repeat' (first | exact Alt.refl _ | refine Alt.grow ?_ _ | refine Alt.drewL ?_ | refine Alt.drewR ?_ | refine Alt.box ?_ (isBox.mk _ _ _ _ _) (isBox.mk _ _ _ _ _) | refine Alt.alloc ?_ _)); done) | refine Later.alloc ?_ _ | refine Later.grow ?_ _ | refine Later.drew ?_))))
  case rest =>
    obtain ⟨b5, b6, A1, c1, C1, d1, rfl, rfl, hPw, hR, hB5, hB6, hL1, hL2⟩ := hcut
    have HP := Lib.hid hPw
    have L1 := Lib.hid hL1
    have L2 := Lib.hid hL2
    obtain ⟨k0, k1, k2, k3⟩ := hB5.cells
    obtain ⟨l0, l1, l2, l3⟩ := hB6.cells
    haveI : Old b5 wc := ⟨hB5.lt⟩
    haveI : Old b6 wc := ⟨hB6.lt⟩
    have HR0 := Lib.hid hR
    obtain ⟨r0, r1, r2, r3⟩ := hR.cells
    haveI : Old (w.heap.size + 1 + 1) wc := ⟨hR.lt⟩
    haveI : HasCell wc (w.heap.size + 1 + 1) 0 := ⟨_, r0⟩
    haveI : HasCell wc (w.heap.size + 1 + 1) 1 := ⟨_, r1⟩
    clear hR
    clear hPw hL1 hL2 hB5 hB6
    have hz := hnz.out
    go_wp2_with (first | (go_at_call 66; (with_reducible refine (rdivide_n _ _ _ _ qs rs _ _ _ _ hq hvp _ (by first | exact L1.out.lim | exact (L1.out.plus (by repeat' (first | exact Plus.refl _ | refine Plus.alloc ?_ _ | refine Plus.plus ?_ _ | refine Plus.drew ?_ | refine Plus.drewN ?_ _))).lim) (by first | exact L2.out.lim | exact (L2.out.plus (by repeat' (first | exact Plus.refl _ | refine Plus.alloc ?_ _ | refine Plus.plus ?_ _ | refine Plus.drew ?_ | refine Plus.drewN ?_ _))).lim) rfl rfl (by have := hu.out; omega) (by have := hv.out; omega)).mono ?_); rintro e w1 ⟨A3, C3, c3, d3, rfl, q1, q2, q3, q4, q5, q6, ⟨x3, rfl⟩⟩; have HT := Lib.hid q5; have HU := Lib.hid q6; have HT1 := Lib.hid q1; have HT2 := Lib.hid q2; have HU1 := Lib.hid q3; have HU2 := Lib.hid q4; clear q1 q2 q3 q4 q5 q6) | (go_at_call 62; (with_reducible refine (rmade_n pb sb C3 rs ws rs.length d3 R hR1 hR2 _ (by have q := HU.out; (try simp only [plus_drew] at q); first | exact q | exact q.plus (by repeat' (first | exact Plus.refl _ | refine Plus.alloc ?_ _ | refine Plus.plus ?_ _ | refine Plus.drew ?_ | refine Plus.drewN ?_ _))) rfl HU1.out HU2.out (by have := hts.out; omega)).mono ?_); rintro e w1 ⟨A4, c4, rfl, r1, r2, r3, ⟨x4, rfl⟩⟩; have HR := Lib.hid r3; have HR1 := Lib.hid r1; have HR2 := Lib.hid r2; clear r1 r2 r3))
    go_returns
    refine ⟨A4, c4, rfl, HR1.out, HR2.out, ?_, ?_⟩
    · have q := HR.out
      (try simp only [plus_drew] at q)
      exact q.later (by repeat' (first | (refine Later.of_alt ?_; (repeat' (first | exact (Alt.sets _ HR0.out).1 | exact Alt.refl _ | refine Alt.grow ?_ _ | refine Alt.drewL ?_ | refine Alt.drewR ?_ | refine Alt.box ?_ (isBox.mk _ _ _ _ _) (isBox.mk _ _ _ _ _) | refine Alt.alloc ?_ _)); done) | refine Later.alloc ?_ _ | refine Later.grow ?_ _ | refine Later.drew ?_))
    · repeat' (first | exact HP.out | refine Plus.alloc ?_ _ | refine Plus.plus ?_ _ | (refine Plus.setCell ?_ (by show w.heap.size ≤ w.heap.size + 1 + 1; omega) _) | refine Plus.drew ?_ | refine Plus.drewN ?_ _)

set_option maxRecDepth 100000 in
set_option maxHeartbeats 8000000 in
theorem rRem_z (an bn pb qb : Bool) (A C : Option Addr) (xs ys us vs : List Nat) (n c m d : Nat) (hnz : Hid (((vs.length : Int) == 0) = true)) (h1 : Hid (decide (bigI an xs < 0) = pb ∧ dig (bigI an xs).natAbs = us)) (h2 : Hid (decide (bigI bn ys < 0) = qb ∧ dig (bigI bn ys).natAbs = vs)) (hu : Hid (us.length ≤ 8)) (hv : Hid (vs.length ≤ 8)) (w : World) (ha : Hid (Arg w A xs n c)) (hb : Hid (Arg w C ys m d)) :
    Calls Try.prog 27 #[.agg #[.bool an, .slice A n c], .agg #[.bool bn, .slice C m d]] w fun e w' => e = .returned (.tuple #[.agg #[.bool false, .slice none 0 0], .int .i64 4]) ∧ Plus w w' := by
  go_enter Try.func27, Try.ntmps27
  go_upto_region 1 with fail
  go_cut [6, 7] (fun sa sb wx => ∃ b5 b6 A1 c1 C1 d1, sa = .pointer (some ⟨b5, 0, none⟩) ∧ sb = .pointer (some ⟨b6, 0, none⟩) ∧ Plus w wx ∧ BoxO wx (w.heap.size + 1 + 1) false none 0 0 ∧ BoxO wx b5 pb A1 us.length c1 ∧ BoxO wx b6 qb C1 vs.length d1 ∧ Arg wx A1 us us.length c1 ∧ Arg wx C1 vs vs.length d1)
  case first =>
    go_region_held3 (fun w' => w'.cell? ⟨w.heap.size, 0, none⟩ = some (.bool an) ∧ w'.cell? ⟨w.heap.size, 1, none⟩ = some (.slice A n c) ∧ w'.cell? ⟨w.heap.size + 1, 0, none⟩ = some (.bool bn) ∧ w'.cell? ⟨w.heap.size + 1, 1, none⟩ = some (.slice C m d)) (refine ⟨?_, ?_, ?_, ?_⟩ <;> simp [go_sem]) (first | (go_at_call_of 60 (Value.agg #[.bool an, .slice A n c]); (with_reducible refine (rgood_h h1 _ (by first | exact ha.out | (have q := ha.out; exact q.plus (by repeat' (first | exact Plus.refl _ | refine Plus.alloc ?_ _ | refine Plus.plus ?_ _ | refine Plus.drew ?_ | refine Plus.drewN ?_ _))))).mono ?_); rintro e w1 ⟨A1, c1, rfl, q1, q2, q3, ⟨xc1, rfl⟩⟩; have HNc1 := Lib.hid q3; have HLc1 := Lib.hid q1; have HCc1 := Lib.hid q2; clear q1 q2 q3) | (go_at_call_of 60 (Value.agg #[.bool bn, .slice C m d]); (with_reducible refine (rgood_h h2 _ (by first | exact hb.out | (have q := hb.out; exact q.plus (by repeat' (first | exact Plus.refl _ | refine Plus.alloc ?_ _ | refine Plus.plus ?_ _ | refine Plus.drew ?_ | refine Plus.drewN ?_ _))))).mono ?_); rintro e w1 ⟨C1, d1, rfl, q1, q2, q3, ⟨xd1, rfl⟩⟩; have HNd1 := Lib.hid q3; have HLd1 := Lib.hid q1; have HCd1 := Lib.hid q2; clear q1 q2 q3))
    all_goals (go_wp2_with fail; go_meet; refine ⟨_, _, A1, c1, C1, d1, rfl, rfl, ?_, ?_, ?_, ?_, ?_, ?_⟩)
    all_goals first | ((repeat' (first | exact Plus.refl _ | refine Plus.alloc ?_ _ | refine Plus.plus ?_ _ | refine Plus.drew ?_ | refine Plus.drewN ?_ _)); done) | ((repeat' (first | (refine BoxO.new' ?_; (simp [go_sem]; done)) | refine BoxO.alloc ?_ _ | refine BoxO.grow ?_ _ | refine BoxO.drew ?_)); done) | (refine ⟨?_, rfl, by have := hu.out; omega, HLc1.out, HCc1.out⟩; (have q := HNc1.out; (try simp only [plus_drew] at q); exact q.later (by repeat' (first | (refine Later.of_alt ?_; (repeat' (first | exact Alt.refl _ | refine Alt.grow ?_ _ | refine Alt.drewL ?_ | refine Alt.drewR ?_ | refine Alt.box ?_ (isBox.mk _ _ _ _ _) (isBox.mk _ _ _ _ _) | refine Alt.alloc ?_ _)); done) | refine Later.alloc ?_ _ | refine Later.grow ?_ _ | refine Later.drew ?_)))) | (refine ⟨?_, rfl, by have := hv.out; omega, HLd1.out, HCd1.out⟩; (have q := HNd1.out; (try simp only [plus_drew] at q); exact q.later (by repeat' (first | (refine Later.of_alt ?_; (repeat' (first | exact Alt.refl _ | refine Alt.grow ?_ _ | refine Alt.drewL ?_ | refine Alt.drewR ?_ | refine Alt.box ?_ (isBox.mk _ _ _ _ _) (isBox.mk _ _ _ _ _) | refine Alt.alloc ?_ _)); done) | refine Later.alloc ?_ _ | refine Later.grow ?_ _ | refine Later.drew ?_))))
  case rest =>
    obtain ⟨b5, b6, A1, c1, C1, d1, rfl, rfl, hPw, hR, hB5, hB6, hL1, hL2⟩ := hcut
    have HP := Lib.hid hPw
    have L1 := Lib.hid hL1
    have L2 := Lib.hid hL2
    obtain ⟨k0, k1, k2, k3⟩ := hB5.cells
    obtain ⟨l0, l1, l2, l3⟩ := hB6.cells
    haveI : Old b5 wc := ⟨hB5.lt⟩
    haveI : Old b6 wc := ⟨hB6.lt⟩
    have HR0 := Lib.hid hR
    obtain ⟨r0, r1, r2, r3⟩ := hR.cells
    haveI : Old (w.heap.size + 1 + 1) wc := ⟨hR.lt⟩
    haveI : HasCell wc (w.heap.size + 1 + 1) 0 := ⟨_, r0⟩
    haveI : HasCell wc (w.heap.size + 1 + 1) 1 := ⟨_, r1⟩
    clear hR
    clear hPw hL1 hL2 hB5 hB6
    have hz := hnz.out
    go_wp2_with fail
    go_returns
    exact ⟨rfl, by repeat' (first | exact HP.out | refine Plus.alloc ?_ _ | refine Plus.plus ?_ _ | (refine Plus.setCell ?_ (by show w.heap.size ≤ w.heap.size + 1 + 1; omega) _) | refine Plus.drew ?_ | refine Plus.drewN ?_ _)⟩

theorem rRem_n {an bn : Bool} {A C : Option Addr} {xs ys : List Nat} {n c m d : Nat} {a b r : Int} {pb : Bool} {us : List Nat} (hA : Hid (bigI an xs = a)) (hB : Hid (bigI bn ys = b)) {er : Int} (hr : Hid (RemN a b r er pb us)) (w : World) (ha : Arg w A xs n c) (hb : Arg w C ys m d) : Calls Try.prog 27 #[.agg #[.bool an, .slice A n c], .agg #[.bool bn, .slice C m d]] w fun e w' => ∃ (A1 : Option Addr) (c1 : Nat), e = .returned (.tuple #[.agg #[.bool pb, .slice A1 us.length c1], .int .i64 er]) ∧ Arg w' A1 us us.length c1 ∧ Plus w w' := by
  have hab : (bigI an xs).natAbs < B ^ 8 := bigI_abs ha.lim.1
  have hbb : (bigI bn ys).natAbs < B ^ 8 := bigI_abs hb.lim.1
  obtain ⟨h1, h2, h3⟩ := hr.out
  have ⟨e1, e2, e3⟩ := h1
  by_cases hz : b.natAbs = 0
  · rw [if_pos hz] at h2 h3
    subst h2 h3
    have hl : ((((dig (bigI bn ys).natAbs).length : Nat) : Int) == 0) = true := by rw [hB.out, hz, dig_zero]; rfl
    have h := rRem_z an bn _ _ A C xs ys _ _ n c m d (Lib.hid hl) (Lib.hid ⟨rfl, rfl⟩) (Lib.hid ⟨rfl, rfl⟩) (Lib.hid (dig_len_le hab)) (Lib.hid (dig_len_le hbb)) w (Lib.hid ha) (Lib.hid hb)
    have e4 : us = [] := by rw [← e2]; exact dig_zero
    have e5 : pb = false := by rw [← e1]; rfl
    subst e4 e5
    exact h.mono fun _ _ ⟨q0, q1⟩ => ⟨none, 0, q0, h1.arg (by rw [e2]; exact Nat.le_refl _) (by omega) (by rw [e2]; exact Lim.nil), q1⟩
  · rw [if_neg hz] at h2 h3
    subst h2
    have hv : 0 < val (dig (bigI bn ys).natAbs) := by rw [val_dig, hB.out]; omega
    have hl : ((((dig (bigI bn ys).natAbs).length : Nat) : Int) == 0) = false := by
      rw [beq_eq_false_iff_ne]
      intro h0
      have h4 : (dig (bigI bn ys).natAbs).length = 0 := by omega
      have h5 := List.length_eq_zero_iff.1 h4
      rw [h5] at hv
      exact absurd hv (by decide)
    have hS : sgn (decide (bigI an xs < 0)) (val (dig (val (dig (bigI an xs).natAbs) % val (dig (bigI bn ys).natAbs)))) = r := by
      rw [val_dig, val_dig, val_dig, h3, hA.out, hB.out]
      exact sgn_rem a b
    have hT : (dig (val (dig (bigI an xs).natAbs) % val (dig (bigI bn ys).natAbs))).length ≤ 2097152 := by
      rw [val_dig, val_dig]
      have h9 : (bigI an xs).natAbs % (bigI bn ys).natAbs < B ^ 8 := Nat.lt_of_le_of_lt (Nat.mod_le _ _) hab
      have := dig_len_le h9
      omega
    have h := rRem_y an bn _ _ A C xs ys _ _ n c m d pb _ _ us r (Lib.hid ⟨rfl, rfl⟩) (Lib.hid hv) (Lib.hid hl) (Lib.hid hT) (Lib.hid hS) (Lib.hid ⟨e1, e2⟩) (Lib.hid ⟨rfl, rfl⟩) (Lib.hid ⟨rfl, rfl⟩) (Lib.hid (dig_len_le hab)) (Lib.hid (dig_len_le hbb)) w (Lib.hid ha) (Lib.hid hb)
    exact h.mono fun _ _ ⟨A1, c1, q0, q1, q2, q3, q4⟩ => ⟨A1, c1, q0, h1.arg (by rw [e2]; exact q1) q2 (by rw [e2]; exact q3), q4⟩
end Go.Proofs.Ythaokkmbghgopaa
