/- The walk of NumRests. -/
import Derived.Test.YtdmodkmliagiiaaDoorL8m
import Derived.Test.YtdmodkmliagiiaaDoorQ3
import Derived.Lib.MinMax
namespace Go.Proofs.YtdmodkmliagiiaaDoor
open Go.RowKit

theorem cell_plusN8 {w w' : World} {a : Addr} {v : Value} (h : w.cell? a = some v) (hp : Plus w w') : w'.cell? a = some v := (World.cell?_of_block (w := w) (hp.below.block _ (World.block_lt_of_cell? _ _ h))).trans h
set_option maxRecDepth 100000 in
set_option maxHeartbeats 16000000 in
theorem rests_h (ak an bk bn ck cn qk qn xk xn rk rn rm bm : Int) (W mA mB qo xo E1 E2 E3 l1 l2 l3 l4 : Bool) (hd : Hid (divR ak an bk bn = ⟨qk, qn, qo⟩)) (hmA : Hid (mayB ak an = mA)) (hmB : Hid (mayB bk bn = mB)) (hx : Hid (mulR qk qn bk bn = ⟨xk, xn, xo⟩)) (he : Hid (equalR xk xn ak an = E1)) (hr : Hid (remR ak an bk bn = ⟨rk, rn⟩)) (he2 : Hid (equalR rk rn 0 0 = E2)) (hl1 : Hid (lessR ak an bk bn = l1)) (hl2 : Hid (lessR bk bn ck cn = l2)) (hl3 : Hid (lessR ak an ck cn = l3)) (hl4 : Hid (lessR bk bn ak an = l4)) (he3 : Hid (equalR ak an bk bn = E3)) (hW : Hid (W = (mA && (mB && ((ak == 0) && ((bk == 0) && !(bn == 0))))))) (hT : Hid (W = true → qo = true → xo = true ∧ E1 = true)) (hM : Hid (W = true → IntKind.i64.wrap (-rn) = rm ∧ IntKind.i64.wrap (-bn) = bm ∧ max rn rm < max bn bm)) (hQ : Hid (W = true → E2 = qo)) (hO : Hid ((l1 = true → l4 = false ∧ E3 = false) ∧ (l1 = true → l2 = true → l3 = true))) (w : World) :
    Calls Tryd.prog 8 #[.agg #[.int .i64 ak, .int .i64 an], .agg #[.int .i64 bk, .int .i64 bn], .agg #[.int .i64 ck, .int .i64 cn]] w fun e w' => e = .returned (.bool true) ∧ Plus w w' := by
  go_enter Tryd.func8, Tryd.ntmps8
  go_upto_region 4 with (first | (go_at_call 15; ((with_reducible refine (first_c _).mono ?_); rintro e w1 ⟨rfl, ⟨x1, rfl⟩⟩)) | (go_at_call 22; ((with_reducible refine (div_v hd _).mono ?_); rintro e w1 ⟨rfl, ⟨x1, rfl⟩⟩)))
  go_cut [7, 8, 9] (fun s7 s8 s9 wx => ∃ b7, s7 = .pointer (some ⟨b7, 0, none⟩) ∧ s8 = .bool qo ∧ s9 = .bool W ∧ Plus w wx ∧ Box wx w.heap.size ak an ∧ Box wx (w.heap.size + 1) bk bn ∧ Box wx (w.heap.size + 1 + 1) ck cn ∧ Box wx b7 qk qn)
  case first =>
    have hWo := hW.out
    clear hW
    cases mA
    · obtain rfl : W = false := by simpa using hWo
      clear hWo
      go_wp2_with (first | (go_at_call 24; ((with_reducible refine (may_v hmA _).mono ?_); rintro e w1 ⟨rfl, ⟨x1, rfl⟩⟩)))
      go_meet
      refine ⟨_, rfl, rfl, rfl, ?_, ?_, ?_, ?_, ?_⟩
      all_goals first | ((repeat' (first | exact Plus.refl _ | refine Plus.alloc ?_ _ | refine Plus.plus ?_ _ | refine Plus.drew ?_ | refine Plus.drewN ?_ _)); done) | ((repeat' (first | (refine Box.new' ?_; (simp [go_sem]; done)) | refine Box.alloc ?_ _ | refine Box.grow ?_ _ | refine Box.drew ?_)); done)
    cases mB
    · obtain rfl : W = false := by simpa using hWo
      clear hWo
      go_wp2_with (first | (go_at_call 24; ((with_reducible refine (may_v hmA _).mono ?_); rintro e w1 ⟨rfl, ⟨x1, rfl⟩⟩)) | (go_at_call 24; ((with_reducible refine (may_v hmB _).mono ?_); rintro e w1 ⟨rfl, ⟨x1, rfl⟩⟩)))
      go_meet
      refine ⟨_, rfl, rfl, rfl, ?_, ?_, ?_, ?_, ?_⟩
      all_goals first | ((repeat' (first | exact Plus.refl _ | refine Plus.alloc ?_ _ | refine Plus.plus ?_ _ | refine Plus.drew ?_ | refine Plus.drewN ?_ _)); done) | ((repeat' (first | (refine Box.new' ?_; (simp [go_sem]; done)) | refine Box.alloc ?_ _ | refine Box.grow ?_ _ | refine Box.drew ?_)); done)
    cases k1 : (ak == 0)
    · obtain rfl : W = false := by simpa [k1] using hWo
      clear hWo
      go_wp2_with (first | (go_at_call 24; ((with_reducible refine (may_v hmA _).mono ?_); rintro e w1 ⟨rfl, ⟨x1, rfl⟩⟩)) | (go_at_call 24; ((with_reducible refine (may_v hmB _).mono ?_); rintro e w1 ⟨rfl, ⟨x1, rfl⟩⟩)))
      go_meet
      refine ⟨_, rfl, rfl, rfl, ?_, ?_, ?_, ?_, ?_⟩
      all_goals first | ((repeat' (first | exact Plus.refl _ | refine Plus.alloc ?_ _ | refine Plus.plus ?_ _ | refine Plus.drew ?_ | refine Plus.drewN ?_ _)); done) | ((repeat' (first | (refine Box.new' ?_; (simp [go_sem]; done)) | refine Box.alloc ?_ _ | refine Box.grow ?_ _ | refine Box.drew ?_)); done)
    cases k2 : (bk == 0)
    · obtain rfl : W = false := by simpa [k1, k2] using hWo
      clear hWo
      go_wp2_with (first | (go_at_call 24; ((with_reducible refine (may_v hmA _).mono ?_); rintro e w1 ⟨rfl, ⟨x1, rfl⟩⟩)) | (go_at_call 24; ((with_reducible refine (may_v hmB _).mono ?_); rintro e w1 ⟨rfl, ⟨x1, rfl⟩⟩)))
      go_meet
      refine ⟨_, rfl, rfl, rfl, ?_, ?_, ?_, ?_, ?_⟩
      all_goals first | ((repeat' (first | exact Plus.refl _ | refine Plus.alloc ?_ _ | refine Plus.plus ?_ _ | refine Plus.drew ?_ | refine Plus.drewN ?_ _)); done) | ((repeat' (first | (refine Box.new' ?_; (simp [go_sem]; done)) | refine Box.alloc ?_ _ | refine Box.grow ?_ _ | refine Box.drew ?_)); done)
    cases k3 : (bn == 0)
    · obtain rfl : W = true := by simpa [k1, k2, k3] using hWo
      have k4 : (bn != 0) = true := by simpa using k3
      clear hWo
      go_wp2_with (first | (go_at_call 24; ((with_reducible refine (may_v hmA _).mono ?_); rintro e w1 ⟨rfl, ⟨x1, rfl⟩⟩)) | (go_at_call 24; ((with_reducible refine (may_v hmB _).mono ?_); rintro e w1 ⟨rfl, ⟨x1, rfl⟩⟩)))
      go_meet
      refine ⟨_, rfl, rfl, rfl, ?_, ?_, ?_, ?_, ?_⟩
      all_goals first | ((repeat' (first | exact Plus.refl _ | refine Plus.alloc ?_ _ | refine Plus.plus ?_ _ | refine Plus.drew ?_ | refine Plus.drewN ?_ _)); done) | ((repeat' (first | (refine Box.new' ?_; (simp [go_sem]; done)) | refine Box.alloc ?_ _ | refine Box.grow ?_ _ | refine Box.drew ?_)); done)
    · obtain rfl : W = false := by simpa [k1, k2, k3] using hWo
      have k4 : (bn != 0) = false := by simpa using k3
      clear hWo
      go_wp2_with (first | (go_at_call 24; ((with_reducible refine (may_v hmA _).mono ?_); rintro e w1 ⟨rfl, ⟨x1, rfl⟩⟩)) | (go_at_call 24; ((with_reducible refine (may_v hmB _).mono ?_); rintro e w1 ⟨rfl, ⟨x1, rfl⟩⟩)))
      go_meet
      refine ⟨_, rfl, rfl, rfl, ?_, ?_, ?_, ?_, ?_⟩
      all_goals first | ((repeat' (first | exact Plus.refl _ | refine Plus.alloc ?_ _ | refine Plus.plus ?_ _ | refine Plus.drew ?_ | refine Plus.drewN ?_ _)); done) | ((repeat' (first | (refine Box.new' ?_; (simp [go_sem]; done)) | refine Box.alloc ?_ _ | refine Box.grow ?_ _ | refine Box.drew ?_)); done)
  case rest =>
    obtain ⟨b7, rfl, rfl, rfl, hPw, hA, hB, hC, hQb⟩ := hcut
    clear hd hmA hmB hW
    obtain ⟨a0, a1, a2, a3, a4⟩ := id hA
    haveI : Old w.heap.size wc := ⟨a4⟩
    clear a2 a3 a4
    obtain ⟨c0, c1, c2, c3, c4⟩ := id hB
    haveI : Old (w.heap.size + 1) wc := ⟨c4⟩
    clear c2 c3 c4
    obtain ⟨d0, d1, d2, d3, d4⟩ := id hC
    haveI : Old (w.heap.size + 1 + 1) wc := ⟨d4⟩
    clear d2 d3 d4
    obtain ⟨q0, q1, q2, q3, q4⟩ := id hQb
    haveI : Old b7 wc := ⟨q4⟩
    clear q2 q3 q4
    clear hA hB hC hQb
    cases W
    · clear hT hM hQ
      cases qo
      · go_upto_region 10 with (first | (go_at_call 28; ((with_reducible refine (rem_v hr _).mono ?_); rintro e w1 ⟨rfl, ⟨x1, rfl⟩⟩)))
        refine wp_region_plus (by kernel_rfl) (by kernel_rfl) ?_
        repeat (go_big_quiet_step (fail))
        refine wpQuiet_nil ?_
        intro _ hw'
        obtain ⟨x9, rfl⟩ := hw'
        go_upto_region 12 with fail
        cases l1 <;> cases l2 <;> cases l3
        all_goals first | (exact absurd (hO.out.2 rfl rfl) (by decide)) | skip
        all_goals first | (obtain ⟨rfl, rfl⟩ := hO.out.1 rfl; clear hO) | clear hO
        all_goals
          go_wp2_with (first | (go_at_call 15; ((with_reducible refine (first_c _).mono ?_); rintro e w1 ⟨rfl, ⟨x1, rfl⟩⟩)) | (go_at_call 32; ((with_reducible refine (less_v hl1 _).mono ?_); rintro e w1 ⟨rfl, ⟨x1, rfl⟩⟩)) | (go_at_call 32; ((with_reducible refine (less_v hl2 _).mono ?_); rintro e w1 ⟨rfl, ⟨x1, rfl⟩⟩)) | (go_at_call 32; ((with_reducible refine (less_v hl3 _).mono ?_); rintro e w1 ⟨rfl, ⟨x1, rfl⟩⟩)) | (go_at_call 32; ((with_reducible refine (less_v hl4 _).mono ?_); rintro e w1 ⟨rfl, ⟨x1, rfl⟩⟩)) | (go_at_call 34; ((with_reducible refine (equal_v he3 _).mono ?_); rintro e w1 ⟨rfl, ⟨x1, rfl⟩⟩)))
          go_returns
          refine ⟨by simp, ?_⟩
          repeat' (first | exact Plus.refl _ | exact hPw | refine Plus.alloc ?_ _ | refine Plus.plus ?_ _ | refine Plus.drew ?_ | refine Plus.drewN ?_ _)
      · go_upto_region 10 with (first | (go_at_call 28; ((with_reducible refine (rem_v hr _).mono ?_); rintro e w1 ⟨rfl, ⟨x1, rfl⟩⟩)))
        refine wp_region_plus (by kernel_rfl) (by kernel_rfl) ?_
        repeat (go_big_quiet_step (fail))
        refine wpQuiet_nil ?_
        intro _ hw'
        obtain ⟨x9, rfl⟩ := hw'
        go_upto_region 12 with fail
        cases l1 <;> cases l2 <;> cases l3
        all_goals first | (exact absurd (hO.out.2 rfl rfl) (by decide)) | skip
        all_goals first | (obtain ⟨rfl, rfl⟩ := hO.out.1 rfl; clear hO) | clear hO
        all_goals
          go_wp2_with (first | (go_at_call 15; ((with_reducible refine (first_c _).mono ?_); rintro e w1 ⟨rfl, ⟨x1, rfl⟩⟩)) | (go_at_call 32; ((with_reducible refine (less_v hl1 _).mono ?_); rintro e w1 ⟨rfl, ⟨x1, rfl⟩⟩)) | (go_at_call 32; ((with_reducible refine (less_v hl2 _).mono ?_); rintro e w1 ⟨rfl, ⟨x1, rfl⟩⟩)) | (go_at_call 32; ((with_reducible refine (less_v hl3 _).mono ?_); rintro e w1 ⟨rfl, ⟨x1, rfl⟩⟩)) | (go_at_call 32; ((with_reducible refine (less_v hl4 _).mono ?_); rintro e w1 ⟨rfl, ⟨x1, rfl⟩⟩)) | (go_at_call 34; ((with_reducible refine (equal_v he3 _).mono ?_); rintro e w1 ⟨rfl, ⟨x1, rfl⟩⟩)))
          go_returns
          refine ⟨by simp, ?_⟩
          repeat' (first | exact Plus.refl _ | exact hPw | refine Plus.alloc ?_ _ | refine Plus.plus ?_ _ | refine Plus.drew ?_ | refine Plus.drewN ?_ _)
    · obtain ⟨m1, m2, m3⟩ := hM.out rfl
      obtain ⟨M1, hM1⟩ : ∃ z, max rn rm = z := ⟨_, rfl⟩
      obtain ⟨M2, hM2⟩ : ∃ z, max bn bm = z := ⟨_, rfl⟩
      rw [hM1, hM2] at m3
      have m4 : decide (M2 ≤ M1) = false := decide_eq_false (by omega)
      obtain rfl := hQ.out rfl
      have hT2 := hT.out rfl
      clear hM hQ hT m3
      cases E2
      · clear hT2
        go_upto_region 10 with (first | (go_at_call 28; ((with_reducible refine (rem_v hr _).mono ?_); rintro e w1 ⟨rfl, ⟨x1, rfl⟩⟩)))
        have Pa0 := fun x : More => cell_plusN8 a0 (Plus.is x)
        have Pa1 := fun x : More => cell_plusN8 a1 (Plus.is x)
        have Pc0 := fun x : More => cell_plusN8 c0 (Plus.is x)
        have Pc1 := fun x : More => cell_plusN8 c1 (Plus.is x)
        have Pd0 := fun x : More => cell_plusN8 d0 (Plus.is x)
        have Pd1 := fun x : More => cell_plusN8 d1 (Plus.is x)
        refine wp_region_plus (by kernel_rfl) (by kernel_rfl) ?_
        repeat (go_big_quiet_step (first | (go_at_call 54; with_reducible exact calls_plus (w_c _ _)) | (go_at_call 34; with_reducible exact calls_plus (equal_v he2 _))))
        refine wpQuiet_nil ?_
        intro _ hw'
        obtain ⟨x9, rfl⟩ := hw'
        go_upto_region 12 with fail
        cases l1 <;> cases l2 <;> cases l3
        all_goals first | (exact absurd (hO.out.2 rfl rfl) (by decide)) | skip
        all_goals first | (obtain ⟨rfl, rfl⟩ := hO.out.1 rfl; clear hO) | clear hO
        all_goals
          go_wp2_with (first | (go_at_call 15; ((with_reducible refine (first_c _).mono ?_); rintro e w1 ⟨rfl, ⟨x1, rfl⟩⟩)) | (go_at_call 32; ((with_reducible refine (less_v hl1 _).mono ?_); rintro e w1 ⟨rfl, ⟨x1, rfl⟩⟩)) | (go_at_call 32; ((with_reducible refine (less_v hl2 _).mono ?_); rintro e w1 ⟨rfl, ⟨x1, rfl⟩⟩)) | (go_at_call 32; ((with_reducible refine (less_v hl3 _).mono ?_); rintro e w1 ⟨rfl, ⟨x1, rfl⟩⟩)) | (go_at_call 32; ((with_reducible refine (less_v hl4 _).mono ?_); rintro e w1 ⟨rfl, ⟨x1, rfl⟩⟩)) | (go_at_call 34; ((with_reducible refine (equal_v he3 _).mono ?_); rintro e w1 ⟨rfl, ⟨x1, rfl⟩⟩)))
          go_returns
          refine ⟨by simp, ?_⟩
          repeat' (first | exact Plus.refl _ | exact hPw | refine Plus.alloc ?_ _ | refine Plus.plus ?_ _ | refine Plus.drew ?_ | refine Plus.drewN ?_ _)
      · obtain ⟨rfl, rfl⟩ := hT2 rfl
        clear hT2
        go_upto_region 10 with (first | (go_at_call 20; ((with_reducible refine (mul_v hx _).mono ?_); rintro e w1 ⟨rfl, ⟨x1, rfl⟩⟩)) | (go_at_call 34; ((with_reducible refine (equal_v he _).mono ?_); rintro e w1 ⟨rfl, ⟨x1, rfl⟩⟩)) | (go_at_call 28; ((with_reducible refine (rem_v hr _).mono ?_); rintro e w1 ⟨rfl, ⟨x1, rfl⟩⟩)))
        have Pa0 := fun x : More => cell_plusN8 a0 (Plus.is x)
        have Pa1 := fun x : More => cell_plusN8 a1 (Plus.is x)
        have Pc0 := fun x : More => cell_plusN8 c0 (Plus.is x)
        have Pc1 := fun x : More => cell_plusN8 c1 (Plus.is x)
        have Pd0 := fun x : More => cell_plusN8 d0 (Plus.is x)
        have Pd1 := fun x : More => cell_plusN8 d1 (Plus.is x)
        refine wp_region_plus (by kernel_rfl) (by kernel_rfl) ?_
        repeat (go_big_quiet_step (first | (go_at_call 54; with_reducible exact calls_plus (w_c _ _)) | (go_at_call 34; with_reducible exact calls_plus (equal_v he2 _))))
        refine wpQuiet_nil ?_
        intro _ hw'
        obtain ⟨x9, rfl⟩ := hw'
        go_upto_region 12 with fail
        cases l1 <;> cases l2 <;> cases l3
        all_goals first | (exact absurd (hO.out.2 rfl rfl) (by decide)) | skip
        all_goals first | (obtain ⟨rfl, rfl⟩ := hO.out.1 rfl; clear hO) | clear hO
        all_goals
          go_wp2_with (first | (go_at_call 15; ((with_reducible refine (first_c _).mono ?_); rintro e w1 ⟨rfl, ⟨x1, rfl⟩⟩)) | (go_at_call 32; ((with_reducible refine (less_v hl1 _).mono ?_); rintro e w1 ⟨rfl, ⟨x1, rfl⟩⟩)) | (go_at_call 32; ((with_reducible refine (less_v hl2 _).mono ?_); rintro e w1 ⟨rfl, ⟨x1, rfl⟩⟩)) | (go_at_call 32; ((with_reducible refine (less_v hl3 _).mono ?_); rintro e w1 ⟨rfl, ⟨x1, rfl⟩⟩)) | (go_at_call 32; ((with_reducible refine (less_v hl4 _).mono ?_); rintro e w1 ⟨rfl, ⟨x1, rfl⟩⟩)) | (go_at_call 34; ((with_reducible refine (equal_v he3 _).mono ?_); rintro e w1 ⟨rfl, ⟨x1, rfl⟩⟩)))
          go_returns
          refine ⟨by simp, ?_⟩
          repeat' (first | exact Plus.refl _ | exact hPw | refine Plus.alloc ?_ _ | refine Plus.plus ?_ _ | refine Plus.drew ?_ | refine Plus.drewN ?_ _)

theorem mayB_true {k n : Int} (h : mayB k n = true) (hk : k = 0) : -9007199254740991 ≤ n ∧ n ≤ 9007199254740991 := by
  subst hk
  simpa [mayB] using h
theorem rests_w (ak an bk bn ck cn : Int) (w : World) : Calls Tryd.prog 8 #[.agg #[.int .i64 ak, .int .i64 an], .agg #[.int .i64 bk, .int .i64 bn], .agg #[.int .i64 ck, .int .i64 cn]] w fun e w' => e = .returned (.bool true) ∧ Plus w w' := by
  obtain ⟨W, hW⟩ : ∃ W, W = (mayB ak an && (mayB bk bn && ((ak == 0) && ((bk == 0) && !(bn == 0))))) := ⟨_, rfl⟩
  have hf : W = true → ak = 0 ∧ bk = 0 ∧ (-9007199254740991 ≤ an ∧ an ≤ 9007199254740991) ∧ bn ≠ 0 ∧ (-9007199254740991 ≤ bn ∧ bn ≤ 9007199254740991) := by
    intro h
    rw [h] at hW
    have hW := hW.symm
    simp only [Bool.and_eq_true, Bool.not_eq_true', beq_iff_eq, beq_eq_false_iff_ne] at hW
    obtain ⟨h1, h2, h3, h4, h5⟩ := hW
    exact ⟨h3, h4, mayB_true h1 h3, h5, mayB_true h2 h4⟩
  refine rests_h ak an bk bn ck cn (divR ak an bk bn).k (divR ak an bk bn).n (mulR (divR ak an bk bn).k (divR ak an bk bn).n bk bn).k (mulR (divR ak an bk bn).k (divR ak an bk bn).n bk bn).n (remR ak an bk bn).k (remR ak an bk bn).n (IntKind.i64.wrap (-(remR ak an bk bn).n)) (IntKind.i64.wrap (-bn)) W _ _ (divR ak an bk bn).ok (mulR (divR ak an bk bn).k (divR ak an bk bn).n bk bn).ok _ _ _ _ _ _ _ (Lib.hid rfl) (Lib.hid rfl) (Lib.hid rfl) (Lib.hid rfl) (Lib.hid rfl) (Lib.hid rfl) (Lib.hid rfl) (Lib.hid rfl) (Lib.hid rfl) (Lib.hid rfl) (Lib.hid rfl) (Lib.hid rfl) (Lib.hid hW) (Lib.hid ?_) (Lib.hid ?_) (Lib.hid ?_) (Lib.hid ?_) w
  · intro h ho
    obtain ⟨rfl, rfl, ⟨a1, a2⟩, b0, b1, b2⟩ := hf h
    exact rests_back a1 a2 b0 b1 b2 ho
  · intro h
    obtain ⟨rfl, rfl, ⟨a1, a2⟩, b0, b1, b2⟩ := hf h
    have hn := rests_n a1 a2 b0 b1 b2
    have ht := rests_abs (a := an) b0
    rw [hn]
    have e1 : IntKind.i64.wrap (-(an.tmod bn)) = -(an.tmod bn) := IntWalk.i64_in _ (by omega)
    have e2 : IntKind.i64.wrap (-bn) = -bn := IntWalk.i64_in _ (by omega)
    rw [e1, e2]
    exact ⟨rfl, rfl, ht⟩
  · intro h
    obtain ⟨rfl, rfl, ⟨a1, a2⟩, b0, b1, b2⟩ := hf h
    rw [rests_eq a1 a2 b0 b1 b2, rests_ok a1 a2 b0 b1 b2]
  · exact ⟨fun h => ⟨less_asym _ _ _ _ h, less_ne _ _ _ _ h⟩, less_trans _ _ _ _ _ _⟩
end Go.Proofs.YtdmodkmliagiiaaDoor
