/- renref2.Cmp. -/
import Derived.Test.YtakahpbondaidaaGreatDoorZQ
namespace Go.Proofs.YtakahpbondaidaaGreatDoor.Bg
open Go.RowKit

def cmpS (pb qb : Bool) (v v' : Int) : Int := if pb = true then (if qb = true then v' else -1) else (if qb = true then 1 else v)
set_option maxRecDepth 100000 in
set_option maxHeartbeats 4000000 in
theorem rcmpB_h (an bn pb qb : Bool) (A C : Option Addr) (xs ys us vs : List Nat) (n c m d : Nat) (v v' : Int) (hc : Hid (cmpI (val us) (val vs) = v)) (hc' : Hid (cmpI (val vs) (val us) = v')) (h1 : Hid (decide (bigI an xs < 0) = pb ∧ dig (bigI an xs).natAbs = us)) (h2 : Hid (decide (bigI bn ys < 0) = qb ∧ dig (bigI bn ys).natAbs = vs)) (hu : Hid (us.length ≤ 8)) (hv : Hid (vs.length ≤ 8)) (w : World) (ha : Hid (Arg w A xs n c)) (hb : Hid (Arg w C ys m d)) :
    Calls Tryz.prog 208 #[.agg #[.bool an, .slice A n c], .agg #[.bool bn, .slice C m d]] w fun e w' => e = .returned (.int .i64 (cmpS pb qb v v')) ∧ Plus w w' := by
  go_enter Tryz.func208, Tryz.ntmps208
  go_upto_region 1 with fail
  go_cut [5, 6] (fun sa sb wx => ∃ b5 b6 A1 c1 C1 d1, sa = .pointer (some ⟨b5, 0, none⟩) ∧ sb = .pointer (some ⟨b6, 0, none⟩) ∧ Plus w wx ∧ BoxO wx b5 pb A1 us.length c1 ∧ BoxO wx b6 qb C1 vs.length d1 ∧ Arg wx A1 us us.length c1 ∧ Arg wx C1 vs vs.length d1)
  case first =>
    go_region_held3 (fun w' => w'.cell? ⟨w.heap.size, 0, none⟩ = some (.bool an) ∧ w'.cell? ⟨w.heap.size, 1, none⟩ = some (.slice A n c) ∧ w'.cell? ⟨w.heap.size + 1, 0, none⟩ = some (.bool bn) ∧ w'.cell? ⟨w.heap.size + 1, 1, none⟩ = some (.slice C m d)) (refine ⟨?_, ?_, ?_, ?_⟩ <;> simp [go_sem]) (first | (go_at_call_of 124 (Value.agg #[.bool an, .slice A n c]); (with_reducible refine (rgood_h h1 _ (by first | exact ha.out | (have q := ha.out; exact q.plus (by repeat' (first | exact Plus.refl _ | refine Plus.alloc ?_ _ | refine Plus.plus ?_ _ | refine Plus.drew ?_ | refine Plus.drewN ?_ _))))).mono ?_); rintro e w1 ⟨A1, c1, rfl, q1, q2, q3, ⟨xc1, rfl⟩⟩; have HNc1 := Lib.hid q3; have HLc1 := Lib.hid q1; have HCc1 := Lib.hid q2; clear q1 q2 q3) | (go_at_call_of 124 (Value.agg #[.bool bn, .slice C m d]); (with_reducible refine (rgood_h h2 _ (by first | exact hb.out | (have q := hb.out; exact q.plus (by repeat' (first | exact Plus.refl _ | refine Plus.alloc ?_ _ | refine Plus.plus ?_ _ | refine Plus.drew ?_ | refine Plus.drewN ?_ _))))).mono ?_); rintro e w1 ⟨C1, d1, rfl, q1, q2, q3, ⟨xd1, rfl⟩⟩; have HNd1 := Lib.hid q3; have HLd1 := Lib.hid q1; have HCd1 := Lib.hid q2; clear q1 q2 q3))
    all_goals (go_wp2_with fail; go_meet; refine ⟨_, _, A1, c1, C1, d1, rfl, rfl, ?_, ?_, ?_, ?_, ?_⟩)
    all_goals first | ((repeat' (first | exact Plus.refl _ | refine Plus.alloc ?_ _ | refine Plus.plus ?_ _ | refine Plus.drew ?_ | refine Plus.drewN ?_ _)); done) | ((repeat' (first | (refine BoxO.new' ?_; (simp [go_sem]; done)) | refine BoxO.alloc ?_ _ | refine BoxO.grow ?_ _ | refine BoxO.drew ?_)); done) | (refine ⟨?_, rfl, by have := hu.out; omega, HLc1.out, HCc1.out⟩; (have q := HNc1.out; (try simp only [plus_drew] at q); exact q.later (by repeat' (first | (refine Later.of_alt ?_; (repeat' (first | exact Alt.refl _ | refine Alt.grow ?_ _ | refine Alt.drewL ?_ | refine Alt.drewR ?_ | refine Alt.box ?_ (isBox.mk _ _ _ _ _) (isBox.mk _ _ _ _ _) | refine Alt.alloc ?_ _)); done) | refine Later.alloc ?_ _ | refine Later.grow ?_ _ | refine Later.drew ?_)))) | (refine ⟨?_, rfl, by have := hv.out; omega, HLd1.out, HCd1.out⟩; (have q := HNd1.out; (try simp only [plus_drew] at q); exact q.later (by repeat' (first | (refine Later.of_alt ?_; (repeat' (first | exact Alt.refl _ | refine Alt.grow ?_ _ | refine Alt.drewL ?_ | refine Alt.drewR ?_ | refine Alt.box ?_ (isBox.mk _ _ _ _ _) (isBox.mk _ _ _ _ _) | refine Alt.alloc ?_ _)); done) | refine Later.alloc ?_ _ | refine Later.grow ?_ _ | refine Later.drew ?_))))
  case rest =>
    obtain ⟨b5, b6, A1, c1, C1, d1, rfl, rfl, hPw, hB5, hB6, hL1, hL2⟩ := hcut
    have HP := Lib.hid hPw
    have L1 := Lib.hid hL1
    have L2 := Lib.hid hL2
    obtain ⟨k0, k1, k2, k3⟩ := hB5.cells
    obtain ⟨l0, l1, l2, l3⟩ := hB6.cells
    haveI : Old b5 wc := ⟨hB5.lt⟩
    haveI : Old b6 wc := ⟨hB6.lt⟩
    clear hPw hL1 hL2 hB5 hB6
    cases pb <;> cases qb
    all_goals
      go_wp2_with (first | (go_at_call_of 204 (Value.slice A1 us.length c1); (with_reducible refine (rcmp_n _ _ _ _ _ _ _ _ hc _ L1.out.lim L2.out.lim rfl rfl (by have := hu.out; omega) (by have := hv.out; omega)).mono ?_); rintro e w1 ⟨rfl, rfl⟩) | (go_at_call_of 204 (Value.slice C1 vs.length d1); (with_reducible refine (rcmp_n _ _ _ _ _ _ _ _ hc' _ L2.out.lim L1.out.lim rfl rfl (by have := hv.out; omega) (by have := hu.out; omega)).mono ?_); rintro e w1 ⟨rfl, rfl⟩))
      go_ret
      exact ⟨rfl, HP.out⟩
theorem cmpS_is (a b : Int) : cmpS (decide (a < 0)) (decide (b < 0)) (cmpI (val (dig a.natAbs)) (val (dig b.natAbs))) (cmpI (val (dig b.natAbs)) (val (dig a.natAbs))) = cmpZ a b := by
  rw [val_dig, val_dig]
  unfold cmpS
  by_cases h1 : a < 0 <;> by_cases h2 : b < 0
  · rw [decide_eq_true h1, decide_eq_true h2, if_pos rfl, if_pos rfl]
    unfold cmpI cmpZ
    (repeat' split) <;> omega
  · rw [decide_eq_true h1, decide_eq_false h2, if_pos rfl, if_neg (by decide)]
    exact (cmpZ_lt (by omega)).symm
  · rw [decide_eq_false h1, decide_eq_true h2, if_neg (by decide), if_pos rfl]
    exact (cmpZ_gt (by omega)).symm
  · rw [decide_eq_false h1, decide_eq_false h2, if_neg (by decide), if_neg (by decide)]
    unfold cmpI cmpZ
    (repeat' split) <;> omega
theorem rcmpB_n {an bn : Bool} {A C : Option Addr} {xs ys : List Nat} {n c m d : Nat} {a b : Int} (hA : Hid (bigI an xs = a)) (hB : Hid (bigI bn ys = b)) {v : Int} (hr : Hid (cmpZ a b = v)) (w : World) (ha : Arg w A xs n c) (hb : Arg w C ys m d) : Calls Tryz.prog 208 #[.agg #[.bool an, .slice A n c], .agg #[.bool bn, .slice C m d]] w fun e w' => e = .returned (.int .i64 v) ∧ Plus w w' := by
  have hab : (bigI an xs).natAbs < B ^ 8 := bigI_abs ha.lim.1
  have hbb : (bigI bn ys).natAbs < B ^ 8 := bigI_abs hb.lim.1
  have h := rcmpB_h an bn _ _ A C xs ys _ _ n c m d _ _ (Lib.hid rfl) (Lib.hid rfl) (Lib.hid ⟨rfl, rfl⟩) (Lib.hid ⟨rfl, rfl⟩) (Lib.hid (dig_len_le hab)) (Lib.hid (dig_len_le hbb)) w (Lib.hid ha) (Lib.hid hb)
  rw [cmpS_is, hA.out, hB.out, hr.out] at h
  exact h

end Go.Proofs.YtakahpbondaidaaGreatDoor.Bg
