/- Contracts of num.Int32, Uint32, Index, Sub. -/
import Derived.Test.YtdmodkmliagiiaaDoorS2
import Derived.Test.YtdmodkmliagiiaaDoorB5
import Derived.Test.YtdmodkmliagiiaaDoorB
namespace Go.Proofs.YtdmodkmliagiiaaDoor
open Go.RowKit

theorem i32_c (k n : Int) (w : World) : Calls Tryd.prog 40 #[.agg #[.int .i64 k, .int .i64 n]] w fun e w' => e = .returned (.int .i64 (i32R k n)) ∧ Plus w w' := by
  have e0 : wrap64 (wrap32 (wordR k n)) = i32R k n := by
    have := word_bd k n
    unfold i32R wrap64 wrap32
    split <;> omega
  have E := Lib.hid e0; clear e0
  go_enter Tryd.func40, Tryd.ntmps40
  go_wp2_with ((go_at_call 75; refine (word_c _ _ _).mono ?_; rintro e w1 ⟨rfl, ⟨x1, rfl⟩⟩))
  go_returns
  refine ⟨?_, ?_⟩
  · show Ending.returned (.int .i64 (wrap64 (wrap32 (wordR k n)))) = _
    rw [E.out]
  · repeat' (first | exact Plus.refl _ | refine Plus.alloc ?_ _ | refine Plus.plus ?_ _ | refine Plus.drew ?_ | refine Plus.drewN ?_ _)
theorem u32_c (k n : Int) (w : World) : Calls Tryd.prog 42 #[.agg #[.int .i64 k, .int .i64 n]] w fun e w' => e = .returned (.int .i64 (wordR k n)) ∧ Plus w w' := by
  have e0 : wrap64 (wordR k n) = wordR k n := by
    have := word_bd k n
    unfold wrap64
    omega
  have E := Lib.hid e0; clear e0
  go_enter Tryd.func42, Tryd.ntmps42
  go_wp2_with ((go_at_call 75; refine (word_c _ _ _).mono ?_; rintro e w1 ⟨rfl, ⟨x1, rfl⟩⟩))
  go_returns
  refine ⟨?_, ?_⟩
  · show Ending.returned (.int .i64 (wrap64 (wordR k n))) = _
    rw [E.out]
  · repeat' (first | exact Plus.refl _ | refine Plus.alloc ?_ _ | refine Plus.plus ?_ _ | refine Plus.drew ?_ | refine Plus.drewN ?_ _)
theorem index_c (k n : Int) (w : World) : Calls Tryd.prog 38 #[.agg #[.int .i64 k, .int .i64 n]] w fun e w' => e = .returned (.tuple #[.int .i64 (indexR k n), .bool (indexO k n)]) ∧ Plus w w' := by
  have H1 := Lib.hid (show ∀ a b, a = indexR k n → b = indexO k n → (Ending.returned (.tuple #[.int .i64 a, .bool b])) = .returned (.tuple #[.int .i64 (indexR k n), .bool (indexO k n)]) from fun a b ha hb => by rw [ha, hb])
  go_enter Tryd.func38, Tryd.ntmps38
  go_wp2_with ((go_at_call 44; refine (whole_c _ _ _).mono ?_; rintro e w1 ⟨rfl, ⟨x1, rfl⟩⟩))
  all_goals go_returns
  all_goals refine ⟨H1.out _ _ ?_ ?_, ?_⟩
  all_goals first | (with_reducible (repeat' (first | exact Plus.refl _ | refine Plus.alloc ?_ _ | refine Plus.plus ?_ _ | refine Plus.drew ?_ | refine Plus.drewN ?_ _)); done) | (unfold indexR indexS; simp_all; done) | (unfold indexO indexB; simp_all; done) | (unfold indexR indexS; simp_all; omega) | (unfold indexO indexB; simp_all; omega)
set_option maxHeartbeats 1000000 in
theorem sub_c (k n l m : Int) (w : World) : Calls Tryd.prog 18 #[.agg #[.int .i64 k, .int .i64 n], .agg #[.int .i64 l, .int .i64 m]] w fun e w' => e = .returned (.tuple #[.agg #[.int .i64 (subR k n l m).k, .int .i64 (subR k n l m).n], .bool (subR k n l m).ok]) ∧ Plus w w' := by
  go_enter Tryd.func18, Tryd.ntmps18
  go_wp2_with fail
  go_region_with (first | (go_at_call 30; refine (neg_c _ _ _).mono ?_; rintro e w1 ⟨rfl, ⟨x1, rfl⟩⟩) | (go_at_call 16; refine (add_c _ _ _ _ _).mono ?_; rintro e w1 ⟨rfl, ⟨x2, rfl⟩⟩))
  all_goals go_wp2_with fail
  all_goals go_returns
  all_goals refine ⟨rfl, ?_⟩
  all_goals (repeat' (first | exact Plus.refl _ | refine Plus.alloc ?_ _ | refine Plus.plus ?_ _ | refine Plus.drew ?_ | refine Plus.drewN ?_ _))
end Go.Proofs.YtdmodkmliagiiaaDoor
