/- Contracts of package num's functions. -/
import Derived.Test.YtdckonlipinblaaGreatDoorC7
import Derived.Test.YtdckonlipinblaaGreatDoorS
namespace Go.Proofs.YtdckonlipinblaaGreatDoor
open Go.RowKit

theorem beq_f {a b : Int} (h : a ≠ b) : (a == b) = false := by simpa using h

theorem nan_c  (w : World) : Calls Tryz.prog 47 #[] w fun e w' => e = .returned (.agg #[.int .i64 2, .int .i64 0]) ∧ Plus w w' := by
  go_enter Tryz.func47, Tryz.ntmps47
  go_wp2
  go_returns
  exact ⟨rfl, (Plus.refl _).alloc _⟩

theorem infinity_c (b : Bool) (w : World) : Calls Tryz.prog 49 #[.bool b] w fun e w' => e = .returned (.agg #[.int .i64 (infK b), .int .i64 0]) ∧ Plus w w' := by
  cases b
  · go_enter Tryz.func49, Tryz.ntmps49
    go_wp2
    go_returns
    exact ⟨rfl, (Plus.refl _).alloc _⟩
  · go_enter Tryz.func49, Tryz.ntmps49
    go_wp2
    go_returns
    exact ⟨rfl, (Plus.refl _).alloc _⟩

theorem zero_c (b : Bool) (w : World) : Calls Tryz.prog 72 #[.bool b] w fun e w' => e = .returned (.agg #[.int .i64 (zeroK b), .int .i64 0]) ∧ Plus w w' := by
  cases b
  · go_enter Tryz.func72, Tryz.ntmps72
    go_wp2
    go_returns
    exact ⟨rfl, (Plus.refl _).alloc _⟩
  · go_enter Tryz.func72, Tryz.ntmps72
    go_wp2
    go_returns
    exact ⟨rfl, (Plus.refl _).alloc _⟩

theorem may_c (k n : Int) (w : World) : Calls Tryz.prog 46 #[.agg #[.int .i64 k, .int .i64 n]] w fun e w' => e = .returned (.bool (mayB k n)) ∧ Plus w w' := by
  have hm : ∀ b : Bool, b = mayB k n → (Value.bool b) = .bool (mayB k n) := fun b h => by rw [h]
  have HM := Lib.hid hm; clear hm
  go_enter Tryz.func46, Tryz.ntmps46
  go_wp2
  all_goals go_ret
  all_goals refine ⟨congrArg Ending.returned (HM.out _ ?_), (Plus.refl _).alloc _⟩
  all_goals (unfold mayB; simp_all)
  all_goals omega

theorem valid_c (k n : Int) (w : World) : Calls Tryz.prog 71 #[.agg #[.int .i64 k, .int .i64 n]] w fun e w' => e = .returned (.agg #[.int .i64 (vk k n), .int .i64 (vn k n)]) ∧ Plus w w' := by
  by_cases h : mayB k n = true
  · have h1 : vk k n = k := by unfold vk; rw [if_pos h]
    have h2 : vn k n = n := by unfold vn; rw [if_pos h]
    rw [h1, h2]; clear h1 h2
    go_enter Tryz.func71, Tryz.ntmps71
    go_wp2_with (first | (go_at_call 46; refine (may_c _ _ _).mono ?_; rintro e w1 ⟨rfl, ⟨x1, rfl⟩⟩) | (go_at_call 47; refine (nan_c _).mono ?_; rintro e w1 ⟨rfl, ⟨x2, rfl⟩⟩))
    go_returns
    refine ⟨rfl, ?_⟩
    repeat' (first | exact Plus.refl _ | refine Plus.alloc ?_ _ | refine Plus.plus ?_ _ | refine Plus.drew ?_ | refine Plus.drewN ?_ _)
  · have h1 : vk k n = 2 := by unfold vk; rw [if_neg h]
    have h2 : vn k n = 0 := by unfold vn; rw [if_neg h]
    have h' : mayB k n = false := by simpa using h
    rw [h1, h2]; clear h1 h2 h
    go_enter Tryz.func71, Tryz.ntmps71
    go_wp2_with (first | (go_at_call 46; refine (may_c _ _ _).mono ?_; rintro e w1 ⟨rfl, ⟨x1, rfl⟩⟩) | (go_at_call 47; refine (nan_c _).mono ?_; rintro e w1 ⟨rfl, ⟨x2, rfl⟩⟩))
    go_returns
    refine ⟨rfl, ?_⟩
    repeat' (first | exact Plus.refl _ | refine Plus.alloc ?_ _ | refine Plus.plus ?_ _ | refine Plus.drew ?_ | refine Plus.drewN ?_ _)

theorem valid_h {k n p q : Int} (h : Hid (vk k n = p ∧ vn k n = q)) (w : World) : Calls Tryz.prog 71 #[.agg #[.int .i64 k, .int .i64 n]] w fun e w' => e = .returned (.agg #[.int .i64 p, .int .i64 q]) ∧ Plus w w' := by
  obtain ⟨rfl, rfl⟩ := h.out
  exact valid_c k n w

theorem of_c (n : Int) (w : World) : Calls Tryz.prog 21 #[.int .i64 n] w fun e w' => e = .returned (.tuple #[.agg #[.int .i64 (ofS n).k, .int .i64 (ofS n).n], .bool (ofS n).ok]) ∧ Plus w w' := by
  by_cases h : -9007199254740991 ≤ n ∧ n ≤ 9007199254740991
  · have h1 : ofS n = ⟨0, n, true⟩ := by unfold ofS; rw [if_pos h]
    have hm : mayB 0 n = true := by unfold mayB; simp; exact h
    rw [h1]; clear h1 h
    go_enter Tryz.func21, Tryz.ntmps21
    go_wp2_with (first | (go_at_call 46; refine (may_c _ _ _).mono ?_; rintro e w1 ⟨rfl, ⟨x1, rfl⟩⟩) | (go_at_call 47; refine (nan_c _).mono ?_; rintro e w1 ⟨rfl, ⟨x2, rfl⟩⟩))
    go_returns
    refine ⟨rfl, ?_⟩
    repeat' (first | exact Plus.refl _ | refine Plus.alloc ?_ _ | refine Plus.plus ?_ _ | refine Plus.drew ?_ | refine Plus.drewN ?_ _)
  · have h1 : ofS n = ⟨2, 0, false⟩ := by unfold ofS; rw [if_neg h]
    have hm : mayB 0 n = false := by unfold mayB; simp; omega
    rw [h1]; clear h1 h
    go_enter Tryz.func21, Tryz.ntmps21
    go_wp2_with (first | (go_at_call 46; refine (may_c _ _ _).mono ?_; rintro e w1 ⟨rfl, ⟨x1, rfl⟩⟩) | (go_at_call 47; refine (nan_c _).mono ?_; rintro e w1 ⟨rfl, ⟨x2, rfl⟩⟩))
    go_returns
    refine ⟨rfl, ?_⟩
    repeat' (first | exact Plus.refl _ | refine Plus.alloc ?_ _ | refine Plus.plus ?_ _ | refine Plus.drew ?_ | refine Plus.drewN ?_ _)

set_option maxHeartbeats 2000000 in
theorem neg_h {k n p q : Int} (h1 : Hid (vk k n = p ∧ vn k n = q)) (hp : Hid (IsV p q)) (w : World) :
    Calls Tryz.prog 48 #[.agg #[.int .i64 k, .int .i64 n]] w fun e w' => e = .returned (.agg #[.int .i64 (negS p q).k, .int .i64 (negS p q).n]) ∧ Plus w w' := by
  have g1 := hp.out
  clear hp
  rcases isV6 g1 with ⟨rfl, rfl⟩ | ⟨rfl, hq0, hq1, hq2⟩ | ⟨rfl, rfl⟩ | ⟨rfl, rfl⟩ | ⟨rfl, rfl⟩ | ⟨rfl, rfl⟩
  all_goals clear g1
  all_goals first | (have hqb := beq_f hq0) | skip
  all_goals go_enter Tryz.func48, Tryz.ntmps48
  all_goals go_wp2_with (first | (go_at_call 71; refine (valid_h h1 _).mono ?_; rintro e w1 ⟨rfl, ⟨x0, rfl⟩⟩) | (go_at_call 49; refine (infinity_c _ _).mono ?_; rintro e w1 ⟨rfl, ⟨x2, rfl⟩⟩) | (go_at_call 72; refine (zero_c _ _).mono ?_; rintro e w1 ⟨rfl, ⟨x2, rfl⟩⟩))
  all_goals go_returns
  all_goals refine ⟨?_, ?_⟩
  all_goals first | (simp [negS, zeroK, infK, *]; done) | (with_reducible (repeat' (first | exact Plus.refl _ | refine Plus.alloc ?_ _ | refine Plus.plus ?_ _ | refine Plus.drew ?_ | refine Plus.drewN ?_ _)); done) | (simp_all [negS, zeroK, infK]; done) | skip
  all_goals go_show

theorem neg_c (k n : Int) (w : World) : Calls Tryz.prog 48 #[.agg #[.int .i64 k, .int .i64 n]] w fun e w' => e = .returned (.agg #[.int .i64 (negR k n).k, .int .i64 (negR k n).n]) ∧ Plus w w' :=
  neg_h ⟨rfl, rfl⟩ (isV_v k n) w

end Go.Proofs.YtdckonlipinblaaGreatDoor
