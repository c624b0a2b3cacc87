/- Contract: Text; Parse of a text. -/
import Derived.Lib.Hide
import Derived.Test.YtdmodkmliagiiaaDoorT4
import Derived.Test.YtdmodkmliagiiaaDoorV
import Derived.Test.YtdmodkmliagiiaaDoorR1
namespace Go.Proofs.YtdmodkmliagiiaaDoor
open Go.RowKit


set_option maxHeartbeats 4000000 in
theorem text_i (k n p q : Int) (hv : Hid (vk k n = p ∧ vn k n = q)) (b2 : (p == 2) = false) (b3 : (p == 3) = false) (b4 : (p == 4) = false) (h0 : -9223372036854775808 ≤ q) (h1 : q ≤ 9223372036854775807) (T : ByteArray) (hT : Hid (T = ⟨(Lib.itoa q).toArray⟩)) (w : World) (hL : Hid (Lai w)) :
    Calls Tryd.prog 52 #[.agg #[.int .i64 k, .int .i64 n]] w fun e w' => e = .returned (.string T) ∧ Plus w w' := by
  go_enter Tryd.func52, Tryd.ntmps52
  go_wp2_with (first | (go_at_call 55; (with_reducible refine (valid_h hv _).mono ?_); rintro e w1 ⟨rfl, ⟨x1, rfl⟩⟩) | (go_at_call 77; (with_reducible refine (itoa_c q h0 h1 _ (hL.out.plus (by repeat' (first | exact Plus.refl _ | refine Plus.alloc ?_ _ | refine Plus.plus ?_ _ | refine Plus.drew ?_ | refine Plus.drewN ?_ _)))).mono ?_); rintro e w1 ⟨rfl, ⟨x2, rfl⟩⟩; rw [← hT.out]))
  go_returns
  exact ⟨rfl, (by repeat' (first | exact Plus.refl _ | refine Plus.alloc ?_ _ | refine Plus.plus ?_ _ | refine Plus.drew ?_ | refine Plus.drewN ?_ _))⟩

set_option maxHeartbeats 4000000 in
theorem text_n (k n : Int) (hv : Hid (vk k n = 2 ∧ vn k n = 0)) (w : World) : Calls Tryd.prog 52 #[.agg #[.int .i64 k, .int .i64 n]] w fun e w' => e = .returned (.string ⟨#[78, 97, 78]⟩) ∧ Plus w w' := by
  go_enter Tryd.func52, Tryd.ntmps52
  go_wp2_with (first | (go_at_call 55; (with_reducible refine (valid_h hv _).mono ?_); rintro e w1 ⟨rfl, ⟨x1, rfl⟩⟩))
  go_returns
  exact ⟨rfl, (by repeat' (first | exact Plus.refl _ | refine Plus.alloc ?_ _ | refine Plus.plus ?_ _ | refine Plus.drew ?_ | refine Plus.drewN ?_ _))⟩

set_option maxHeartbeats 4000000 in
theorem text_p (k n : Int) (hv : Hid (vk k n = 3 ∧ vn k n = 0)) (w : World) : Calls Tryd.prog 52 #[.agg #[.int .i64 k, .int .i64 n]] w fun e w' => e = .returned (.string ⟨#[73, 110, 102, 105, 110, 105, 116, 121]⟩) ∧ Plus w w' := by
  go_enter Tryd.func52, Tryd.ntmps52
  go_wp2_with (first | (go_at_call 55; (with_reducible refine (valid_h hv _).mono ?_); rintro e w1 ⟨rfl, ⟨x1, rfl⟩⟩))
  go_returns
  exact ⟨rfl, (by repeat' (first | exact Plus.refl _ | refine Plus.alloc ?_ _ | refine Plus.plus ?_ _ | refine Plus.drew ?_ | refine Plus.drewN ?_ _))⟩

set_option maxHeartbeats 4000000 in
theorem text_m (k n : Int) (hv : Hid (vk k n = 4 ∧ vn k n = 0)) (w : World) : Calls Tryd.prog 52 #[.agg #[.int .i64 k, .int .i64 n]] w fun e w' => e = .returned (.string ⟨#[45, 73, 110, 102, 105, 110, 105, 116, 121]⟩) ∧ Plus w w' := by
  go_enter Tryd.func52, Tryd.ntmps52
  go_wp2_with (first | (go_at_call 55; (with_reducible refine (valid_h hv _).mono ?_); rintro e w1 ⟨rfl, ⟨x1, rfl⟩⟩))
  go_returns
  exact ⟨rfl, (by repeat' (first | exact Plus.refl _ | refine Plus.alloc ?_ _ | refine Plus.plus ?_ _ | refine Plus.drew ?_ | refine Plus.drewN ?_ _))⟩

theorem text_c (k n : Int) (w : World) (hL : Lai w) : Calls Tryd.prog 52 #[.agg #[.int .i64 k, .int .i64 n]] w fun e w' => e = .returned (.string ⟨(txtR k n).toArray⟩) ∧ Plus w w' := by
  have hv := isV_v k n
  unfold txtR
  obtain ⟨p, hp⟩ : ∃ p, vk k n = p := ⟨_, rfl⟩
  obtain ⟨q, hq⟩ : ∃ q, vn k n = q := ⟨_, rfl⟩
  rw [hp, hq] at hv
  rw [hp, hq]
  rcases hv with ⟨rfl, h1, h2⟩ | ⟨rfl, rfl⟩ | ⟨rfl, rfl⟩ | ⟨rfl, rfl⟩ | ⟨rfl, rfl⟩
  · exact text_i k n 0 q (Lib.hid ⟨hp, hq⟩) (by decide) (by decide) (by decide) (by omega) (by omega) _ (Lib.hid (by unfold txtS; rw [if_neg (by decide), if_neg (by decide), if_neg (by decide)])) w (Lib.hid hL)
  · exact text_i k n 1 0 (Lib.hid ⟨hp, hq⟩) (by decide) (by decide) (by decide) (by omega) (by omega) _ (Lib.hid (by unfold txtS; rw [if_neg (by decide), if_neg (by decide), if_neg (by decide)])) w (Lib.hid hL)
  · exact text_n k n (Lib.hid ⟨hp, hq⟩) w
  · exact text_p k n (Lib.hid ⟨hp, hq⟩) w
  · exact text_m k n (Lib.hid ⟨hp, hq⟩) w
theorem text_v {k n : Int} {T : ByteArray} (h : Hid ((⟨(txtR k n).toArray⟩ : ByteArray) = T)) (w : World) (hL : Lai w) : Calls Tryd.prog 52 #[.agg #[.int .i64 k, .int .i64 n]] w fun e w' => e = .returned (.string T) ∧ Plus w w' := by
  have c := text_c k n w hL
  rw [h.out] at c
  exact c
theorem parse_v {T : ByteArray} {x y : Int} {o : Bool} (hs : T.size ≤ 281474976710656) (h : Hid (parS T.data.toList = ⟨x, y, o⟩)) (w : World) (hL : Lai w) : Calls Tryd.prog 48 #[.string T] w fun e w' => e = .returned (.tuple #[.agg #[.int .i64 x, .int .i64 y], .bool o]) ∧ Plus w w' := by
  have c := parse_c T hs w hL
  rw [h.out] at c
  exact c
end Go.Proofs.YtdmodkmliagiiaaDoor
