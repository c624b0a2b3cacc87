/- Contracts of the reference's Uint32, Int32, Index, Same. -/
import Derived.Test.YtdmodkmliagiiaaDoorS3
import Derived.Test.YtdmodkmliagiiaaDoorR1
import Derived.Test.YtdmodkmliagiiaaDoorR5
namespace Go.Proofs.YtdmodkmliagiiaaDoor
open Go.RowKit

theorem word_ref {q : Int} (h1 : -9007199254740991 ≤ q) (h2 : q ≤ 9007199254740991) : (wrap64 (q.tmod 4294967296 + 4294967296)).tmod 4294967296 = q % 4294967296 := by
  have b := Int.tmod_lt_of_pos q (show (0 : Int) < 4294967296 by decide)
  have c : -4294967296 < q.tmod 4294967296 := by
    rcases Int.le_total 0 q with h | h
    · have := Int.tmod_nonneg 4294967296 h; omega
    · have e : q.tmod 4294967296 = -((-q).tmod 4294967296) := by rw [Int.neg_tmod]; omega
      have := Int.tmod_lt_of_pos (-q) (show (0 : Int) < 4294967296 by decide)
      omega
  rw [IntWalk.wrap64_in _ (by omega), Int.tmod_eq_emod_of_nonneg (by omega)]
  rcases Int.le_total 0 q with h | h
  · rw [Int.tmod_eq_emod_of_nonneg h]; omega
  · have e : q.tmod 4294967296 = -((-q).tmod 4294967296) := by rw [Int.neg_tmod]; omega
    rw [e, Int.tmod_eq_emod_of_nonneg (by omega : 0 ≤ -q)]; omega
set_option maxHeartbeats 2000000 in
theorem ru32_h {k n p q : Int} (h1 : Hid (vk k n = p ∧ vn k n = q)) (hp : Hid (IsV p q)) (w : World) :
    Calls Tryd.prog 43 #[.agg #[.int .i64 k, .int .i64 n]] w fun e w' => e = .returned (.int .i64 (wordS p q)) ∧ Plus w w' := by
  have g1 := hp.out
  clear hp
  rcases g1 with ⟨rfl, hq1, hq2⟩ | ⟨rfl, rfl⟩ | ⟨rfl, rfl⟩ | ⟨rfl, rfl⟩ | ⟨rfl, rfl⟩
  · have hw := Lib.hid (word_ref hq1 hq2)
    go_enter Tryd.func43, Tryd.ntmps43
    go_wp2_with (first | (go_at_call 59; refine (rgood_h h1 _).mono ?_; rintro e w1 ⟨rfl, ⟨x0, rfl⟩⟩))
    go_returns
    refine ⟨?_, ?_⟩
    · show Ending.returned (.int .i64 ((wrap64 (q.tmod 4294967296 + 4294967296)).tmod 4294967296)) = _
      rw [hw.out]; rfl
    · repeat' (first | exact Plus.refl _ | refine Plus.alloc ?_ _ | refine Plus.plus ?_ _ | refine Plus.drew ?_ | refine Plus.drewN ?_ _)
  all_goals go_enter Tryd.func43, Tryd.ntmps43
  all_goals go_wp2_with (first | (go_at_call 59; refine (rgood_h h1 _).mono ?_; rintro e w1 ⟨rfl, ⟨x0, rfl⟩⟩))
  all_goals go_returns
  all_goals refine ⟨?_, ?_⟩
  all_goals first | (simp [wordS, *]; done) | (with_reducible (repeat' (first | exact Plus.refl _ | refine Plus.alloc ?_ _ | refine Plus.plus ?_ _ | refine Plus.drew ?_ | refine Plus.drewN ?_ _)); done) | skip
theorem ru32_c (k n : Int) (w : World) : Calls Tryd.prog 43 #[.agg #[.int .i64 k, .int .i64 n]] w fun e w' => e = .returned (.int .i64 (wordR k n)) ∧ Plus w w' :=
  ru32_h ⟨rfl, rfl⟩ (isV_v k n) w
theorem ru32_x {k n x : Int} (h : Hid (wordR k n = x)) (w : World) : Calls Tryd.prog 43 #[.agg #[.int .i64 k, .int .i64 n]] w fun e w' => e = .returned (.int .i64 x) ∧ Plus w w' := by
  have := h.out
  subst this
  exact ru32_c k n w
theorem ri32_x {k n x : Int} (h : Hid (wordR k n = x)) (h0 : 0 ≤ x) (h1 : x < 4294967296) (w : World) : Calls Tryd.prog 41 #[.agg #[.int .i64 k, .int .i64 n]] w fun e w' => e = .returned (.int .i64 (sg x)) ∧ Plus w w' := by
  by_cases hb : x < 2147483648
  · have e : sg x = x := by unfold sg; rw [if_pos hb]
    rw [e]; clear e
    go_enter Tryd.func41, Tryd.ntmps41
    go_wp2_with ((go_at_call 43; refine (ru32_x h _).mono ?_; rintro e w1 ⟨rfl, ⟨x1, rfl⟩⟩))
    go_returns
    refine ⟨rfl, ?_⟩
    repeat' (first | exact Plus.refl _ | refine Plus.alloc ?_ _ | refine Plus.plus ?_ _ | refine Plus.drew ?_ | refine Plus.drewN ?_ _)
  · have e : sg x = x - 4294967296 := by unfold sg; rw [if_neg hb]
    rw [e]; clear e
    go_enter Tryd.func41, Tryd.ntmps41
    go_wp2_with ((go_at_call 43; refine (ru32_x h _).mono ?_; rintro e w1 ⟨rfl, ⟨x1, rfl⟩⟩))
    go_returns
    refine ⟨rfl, ?_⟩
    repeat' (first | exact Plus.refl _ | refine Plus.alloc ?_ _ | refine Plus.plus ?_ _ | refine Plus.drew ?_ | refine Plus.drewN ?_ _)
theorem ri32_c (k n : Int) (w : World) : Calls Tryd.prog 41 #[.agg #[.int .i64 k, .int .i64 n]] w fun e w' => e = .returned (.int .i64 (i32R k n)) ∧ Plus w w' := by
  have h := word_bd k n
  exact ri32_x (Lib.hid rfl) h.1 h.2 w
theorem rindex_c (k n : Int) (w : World) : Calls Tryd.prog 39 #[.agg #[.int .i64 k, .int .i64 n]] w fun e w' => e = .returned (.tuple #[.int .i64 (indexR k n), .bool (indexO k n)]) ∧ Plus w w' := by
  have H1 := Lib.hid (show ∀ a b, a = indexR k n → b = indexO k n → (Ending.returned (.tuple #[.int .i64 a, .bool b])) = .returned (.tuple #[.int .i64 (indexR k n), .bool (indexO k n)]) from fun a b ha hb => by rw [ha, hb])
  go_enter Tryd.func39, Tryd.ntmps39
  go_wp2_with ((go_at_call 45; refine (rwhole_c _ _ _).mono ?_; rintro e w1 ⟨rfl, ⟨x1, rfl⟩⟩))
  all_goals go_returns
  all_goals refine ⟨H1.out _ _ ?_ ?_, ?_⟩
  all_goals first | (with_reducible (repeat' (first | exact Plus.refl _ | refine Plus.alloc ?_ _ | refine Plus.plus ?_ _ | refine Plus.drew ?_ | refine Plus.drewN ?_ _)); done) | (unfold indexR indexS; simp_all; done) | (unfold indexO indexB; simp_all; done) | (unfold indexR indexS; simp_all; omega) | (unfold indexO indexB; simp_all; omega)
set_option maxHeartbeats 1000000 in
theorem rsame_c (k n l m : Int) (w : World) : Calls Tryd.prog 37 #[.agg #[.int .i64 k, .int .i64 n], .agg #[.int .i64 l, .int .i64 m]] w fun e w' => e = .returned (.bool (sameR k n l m)) ∧ Plus w w' := by
  go_enter Tryd.func37, Tryd.ntmps37
  go_wp2_with fail
  refine wp_region_plus (by kernel_rfl) (by kernel_rfl) ?_
  repeat (go_big_quiet_step ((first | (go_at_call 59; exact calls_plus (rgood_c _ _ _)) | (go_at_call 27; exact calls_plus (numeq_c _ _ _ _ _)))))
  refine wpQuiet_nil ?_
  intro _ hw'
  obtain ⟨x3, rfl⟩ := hw'
  go_wp2_with fail
  go_returns
  refine ⟨rfl, ?_⟩
  repeat' (first | exact Plus.refl _ | refine Plus.alloc ?_ _ | refine Plus.plus ?_ _ | refine Plus.drew ?_ | refine Plus.drewN ?_ _)
end Go.Proofs.YtdmodkmliagiiaaDoor
