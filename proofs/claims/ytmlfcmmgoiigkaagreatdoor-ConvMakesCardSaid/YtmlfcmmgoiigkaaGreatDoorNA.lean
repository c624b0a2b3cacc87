/- Contracts of package num's functions. Contract: num.Parse. -/
import Derived.Test.YtmlfcmmgoiigkaaGreatDoorC6
import Derived.Test.YtmlfcmmgoiigkaaGreatDoorS
namespace Go.Proofs.YtmlfcmmgoiigkaaGreatDoor
open Go.RowKit

theorem beq_f {a b : Int} (h : a ≠ b) : (a == b) = false := by simpa using h

theorem nan_c  (w : World) : Calls Tryz.prog 154 #[] w fun e w' => e = .returned (.agg #[.int .i64 2, .int .i64 0]) ∧ Plus w w' := by
  go_enter Tryz.func154, Tryz.ntmps154
  go_wp2
  go_returns
  exact ⟨rfl, (Plus.refl _).alloc _⟩

theorem infinity_c (b : Bool) (w : World) : Calls Tryz.prog 162 #[.bool b] w fun e w' => e = .returned (.agg #[.int .i64 (infK b), .int .i64 0]) ∧ Plus w w' := by
  cases b
  · go_enter Tryz.func162, Tryz.ntmps162
    go_wp2
    go_returns
    exact ⟨rfl, (Plus.refl _).alloc _⟩
  · go_enter Tryz.func162, Tryz.ntmps162
    go_wp2
    go_returns
    exact ⟨rfl, (Plus.refl _).alloc _⟩

theorem zero_c (b : Bool) (w : World) : Calls Tryz.prog 117 #[.bool b] w fun e w' => e = .returned (.agg #[.int .i64 (zeroK b), .int .i64 0]) ∧ Plus w w' := by
  cases b
  · go_enter Tryz.func117, Tryz.ntmps117
    go_wp2
    go_returns
    exact ⟨rfl, (Plus.refl _).alloc _⟩
  · go_enter Tryz.func117, Tryz.ntmps117
    go_wp2
    go_returns
    exact ⟨rfl, (Plus.refl _).alloc _⟩

theorem may_c (k n : Int) (w : World) : Calls Tryz.prog 80 #[.agg #[.int .i64 k, .int .i64 n]] w fun e w' => e = .returned (.bool (mayB k n)) ∧ Plus w w' := by
  have hm : ∀ b : Bool, b = mayB k n → (Value.bool b) = .bool (mayB k n) := fun b h => by rw [h]
  have HM := Lib.hid hm; clear hm
  go_enter Tryz.func80, Tryz.ntmps80
  go_wp2
  all_goals go_ret
  all_goals refine ⟨congrArg Ending.returned (HM.out _ ?_), (Plus.refl _).alloc _⟩
  all_goals (unfold mayB; simp_all)
  all_goals omega

theorem valid_c (k n : Int) (w : World) : Calls Tryz.prog 106 #[.agg #[.int .i64 k, .int .i64 n]] w fun e w' => e = .returned (.agg #[.int .i64 (vk k n), .int .i64 (vn k n)]) ∧ Plus w w' := by
  by_cases h : mayB k n = true
  · have h1 : vk k n = k := by unfold vk; rw [if_pos h]
    have h2 : vn k n = n := by unfold vn; rw [if_pos h]
    rw [h1, h2]; clear h1 h2
    go_enter Tryz.func106, Tryz.ntmps106
    go_wp2_with (first | (go_at_call 80; refine (may_c _ _ _).mono ?_; rintro e w1 ⟨rfl, ⟨x1, rfl⟩⟩) | (go_at_call 154; refine (nan_c _).mono ?_; rintro e w1 ⟨rfl, ⟨x2, rfl⟩⟩))
    go_returns
    refine ⟨rfl, ?_⟩
    repeat' (first | exact Plus.refl _ | refine Plus.alloc ?_ _ | refine Plus.plus ?_ _ | refine Plus.drew ?_ | refine Plus.drewN ?_ _)
  · have h1 : vk k n = 2 := by unfold vk; rw [if_neg h]
    have h2 : vn k n = 0 := by unfold vn; rw [if_neg h]
    have h' : mayB k n = false := by simpa using h
    rw [h1, h2]; clear h1 h2 h
    go_enter Tryz.func106, Tryz.ntmps106
    go_wp2_with (first | (go_at_call 80; refine (may_c _ _ _).mono ?_; rintro e w1 ⟨rfl, ⟨x1, rfl⟩⟩) | (go_at_call 154; refine (nan_c _).mono ?_; rintro e w1 ⟨rfl, ⟨x2, rfl⟩⟩))
    go_returns
    refine ⟨rfl, ?_⟩
    repeat' (first | exact Plus.refl _ | refine Plus.alloc ?_ _ | refine Plus.plus ?_ _ | refine Plus.drew ?_ | refine Plus.drewN ?_ _)

theorem valid_h {k n p q : Int} (h : Hid (vk k n = p ∧ vn k n = q)) (w : World) : Calls Tryz.prog 106 #[.agg #[.int .i64 k, .int .i64 n]] w fun e w' => e = .returned (.agg #[.int .i64 p, .int .i64 q]) ∧ Plus w w' := by
  obtain ⟨rfl, rfl⟩ := h.out
  exact valid_c k n w

theorem of_c (n : Int) (w : World) : Calls Tryz.prog 126 #[.int .i64 n] w fun e w' => e = .returned (.tuple #[.agg #[.int .i64 (ofS n).k, .int .i64 (ofS n).n], .bool (ofS n).ok]) ∧ Plus w w' := by
  by_cases h : -9007199254740991 ≤ n ∧ n ≤ 9007199254740991
  · have h1 : ofS n = ⟨0, n, true⟩ := by unfold ofS; rw [if_pos h]
    have hm : mayB 0 n = true := by unfold mayB; simp; exact h
    rw [h1]; clear h1 h
    go_enter Tryz.func126, Tryz.ntmps126
    go_wp2_with (first | (go_at_call 80; refine (may_c _ _ _).mono ?_; rintro e w1 ⟨rfl, ⟨x1, rfl⟩⟩) | (go_at_call 154; refine (nan_c _).mono ?_; rintro e w1 ⟨rfl, ⟨x2, rfl⟩⟩))
    go_returns
    refine ⟨rfl, ?_⟩
    repeat' (first | exact Plus.refl _ | refine Plus.alloc ?_ _ | refine Plus.plus ?_ _ | refine Plus.drew ?_ | refine Plus.drewN ?_ _)
  · have h1 : ofS n = ⟨2, 0, false⟩ := by unfold ofS; rw [if_neg h]
    have hm : mayB 0 n = false := by unfold mayB; simp; omega
    rw [h1]; clear h1 h
    go_enter Tryz.func126, Tryz.ntmps126
    go_wp2_with (first | (go_at_call 80; refine (may_c _ _ _).mono ?_; rintro e w1 ⟨rfl, ⟨x1, rfl⟩⟩) | (go_at_call 154; refine (nan_c _).mono ?_; rintro e w1 ⟨rfl, ⟨x2, rfl⟩⟩))
    go_returns
    refine ⟨rfl, ?_⟩
    repeat' (first | exact Plus.refl _ | refine Plus.alloc ?_ _ | refine Plus.plus ?_ _ | refine Plus.drew ?_ | refine Plus.drewN ?_ _)

set_option maxHeartbeats 2000000 in
theorem neg_h {k n p q : Int} (h1 : Hid (vk k n = p ∧ vn k n = q)) (hp : Hid (IsV p q)) (w : World) :
    Calls Tryz.prog 161 #[.agg #[.int .i64 k, .int .i64 n]] w fun e w' => e = .returned (.agg #[.int .i64 (negS p q).k, .int .i64 (negS p q).n]) ∧ Plus w w' := by
  have g1 := hp.out
  clear hp
  rcases isV6 g1 with ⟨rfl, rfl⟩ | ⟨rfl, hq0, hq1, hq2⟩ | ⟨rfl, rfl⟩ | ⟨rfl, rfl⟩ | ⟨rfl, rfl⟩ | ⟨rfl, rfl⟩
  all_goals clear g1
  all_goals first | (have hqb := beq_f hq0) | skip
  all_goals go_enter Tryz.func161, Tryz.ntmps161
  all_goals go_wp2_with (first | (go_at_call 106; refine (valid_h h1 _).mono ?_; rintro e w1 ⟨rfl, ⟨x0, rfl⟩⟩) | (go_at_call 162; refine (infinity_c _ _).mono ?_; rintro e w1 ⟨rfl, ⟨x2, rfl⟩⟩) | (go_at_call 117; refine (zero_c _ _).mono ?_; rintro e w1 ⟨rfl, ⟨x2, rfl⟩⟩))
  all_goals go_returns
  all_goals refine ⟨?_, ?_⟩
  all_goals first | (simp [negS, zeroK, infK, *]; done) | (with_reducible (repeat' (first | exact Plus.refl _ | refine Plus.alloc ?_ _ | refine Plus.plus ?_ _ | refine Plus.drew ?_ | refine Plus.drewN ?_ _)); done) | (simp_all [negS, zeroK, infK]; done) | skip
  all_goals go_show

theorem neg_c (k n : Int) (w : World) : Calls Tryz.prog 161 #[.agg #[.int .i64 k, .int .i64 n]] w fun e w' => e = .returned (.agg #[.int .i64 (negR k n).k, .int .i64 (negR k n).n]) ∧ Plus w w' :=
  neg_h ⟨rfl, rfl⟩ (isV_v k n) w

end Go.Proofs.YtmlfcmmgoiigkaaGreatDoor

namespace Go.Proofs.YtmlfcmmgoiigkaaGreatDoor
open Go.RowKit


/-- What Parse tells of a text's bytes. -/
def parS (l : List UInt8) : Ans :=
  if l = [78, 97, 78] then ⟨2, 0, true⟩ else if l = [73, 110, 102, 105, 110, 105, 116, 121] then ⟨3, 0, true⟩
  else if l = [45, 73, 110, 102, 105, 110, 105, 116, 121] then ⟨4, 0, true⟩
  else match Lib.atoiAll l with
    | .ok v => if Lib.itoa v = l then ofS v else ⟨2, 0, false⟩
    | _ => ⟨2, 0, false⟩
theorem atoi_bd {l : List UInt8} {v : Int} (h : Lib.atoiAll l = .ok v) : -9223372036854775808 ≤ v ∧ v ≤ 9223372036854775807 := by
  cases l with
  | nil => cases h
  | cons c r =>
    unfold Lib.atoiAll at h
    simp only at h
    cases q : Lib.parseMag (if c.toNat = 43 ∨ c.toNat = 45 then r else c :: r) with
    | ok u =>
      rw [q] at h
      simp only at h
      split at h
      · cases h
      · split at h
        · cases h
        · injection h with h
          split at h <;> omega
    | range => rw [q] at h; cases h
    | _ => rw [q] at h; cases h
theorem toList_data (s : ByteArray) : s.toList = s.data.toList := ByteArray.toList_eq s
theorem data_eq (s : ByteArray) (l : List UInt8) : (s.toList == l) = decide (s.data.toList = l) := by
  rw [toList_data, Bool.eq_iff_iff]
  simp
theorem data_eq2 (s : ByteArray) (l : List UInt8) : ((⟨l.toArray⟩ : ByteArray).toList == s.toList) = decide (l = s.data.toList) := by
  rw [toList_data, toList_data, Bool.eq_iff_iff]
  simp
set_option maxRecDepth 100000 in
set_option maxHeartbeats 4000000 in
theorem parse_no (s : ByteArray) (hs : s.size ≤ 281474976710656) (w : World) (hL : Hid (Lai w)) (b1 : (s.toList == [78, 97, 78]) = false) (b2 : (s.toList == [73, 110, 102, 105, 110, 105, 116, 121]) = false) (b3 : (s.toList == [45, 73, 110, 102, 105, 110, 105, 116, 121]) = false)
    (h : Hid (∀ v, Lib.atoiAll s.data.toList ≠ .ok v)) :
    Calls Tryz.prog 129 #[.string s] w fun e w' => e = .returned (.tuple #[.agg #[.int .i64 2, .int .i64 0], .bool false]) ∧ Plus w w' := by
  go_enter Tryz.func129, Tryz.ntmps129
  go_wp2_with fail
  refine (atoi_no s hs h.out _ (hL.out.plus (by repeat' (first | exact Plus.refl _ | refine Plus.alloc ?_ _ | refine Plus.plus ?_ _ | refine Plus.drew ?_ | refine Plus.drewN ?_ _)))).mono ?_
  rintro e w1 ⟨n, p, rfl, ⟨x1, rfl⟩⟩
  go_wp2_with (first
    | (go_at_call 154; refine (nan_c _).mono ?_; rintro e w1 ⟨rfl, ⟨x3, rfl⟩⟩))
  go_returns
  refine ⟨rfl, ?_⟩
  repeat' (first | exact Plus.refl _ | refine Plus.alloc ?_ _ | refine Plus.plus ?_ _ | refine Plus.drew ?_ | refine Plus.drewN ?_ _)
set_option maxRecDepth 100000 in
set_option maxHeartbeats 4000000 in
theorem parse_yes (s : ByteArray) (hs : s.size ≤ 281474976710656) (w : World) (hL : Hid (Lai w)) (b1 : (s.toList == [78, 97, 78]) = false) (b2 : (s.toList == [73, 110, 102, 105, 110, 105, 116, 121]) = false) (b3 : (s.toList == [45, 73, 110, 102, 105, 110, 105, 116, 121]) = false)
    (v : Int) (h : Hid (Lib.atoiAll s.data.toList = .ok v)) (T : ByteArray) (hT : Hid (T = ⟨(Lib.itoa v).toArray⟩)) (q : Bool) (hq : Hid (decide (Lib.itoa v = s.data.toList) = q)) (a : Ans) (ha : Hid (a = if q then ofS v else ⟨2, 0, false⟩)) :
    Calls Tryz.prog 129 #[.string s] w fun e w' => e = .returned (.tuple #[.agg #[.int .i64 a.k, .int .i64 a.n], .bool a.ok]) ∧ Plus w w' := by
  have hb := Lib.hid (atoi_bd h.out)
  have bT : (T.toList == s.toList) = q := by rw [hT.out, data_eq2, hq.out]
  obtain rfl := ha.out
  cases q
  all_goals
    go_enter Tryz.func129, Tryz.ntmps129
    go_wp2_with fail
    refine (atoi_yes s hs v h.out _).mono ?_
    rintro e w1 ⟨rfl, ⟨x1, rfl⟩⟩
    go_wp2_with (first
    | (go_at_call 107; refine (itoa_c v hb.out.1 hb.out.2 _ (hL.out.plus (by repeat' (first | exact Plus.refl _ | refine Plus.alloc ?_ _ | refine Plus.plus ?_ _ | refine Plus.drew ?_ | refine Plus.drewN ?_ _)))).mono ?_; rintro e w1 ⟨rfl, ⟨x2, rfl⟩⟩; rw [← hT.out])
    | (go_at_call 154; refine (nan_c _).mono ?_; rintro e w1 ⟨rfl, ⟨x3, rfl⟩⟩)
    | (go_at_call 126; refine (of_c _ _).mono ?_; rintro e w1 ⟨rfl, ⟨x3, rfl⟩⟩))
    go_returns
    refine ⟨by simp, ?_⟩
    repeat' (first | exact Plus.refl _ | refine Plus.alloc ?_ _ | refine Plus.plus ?_ _ | refine Plus.drew ?_ | refine Plus.drewN ?_ _)
set_option maxRecDepth 100000 in
set_option maxHeartbeats 4000000 in
theorem parse_name (s : ByteArray) (w : World) (b1 b2 b3 : Bool) (h1 : (s.toList == [78, 97, 78]) = b1) (h2 : (s.toList == [73, 110, 102, 105, 110, 105, 116, 121]) = b2) (h3 : (s.toList == [45, 73, 110, 102, 105, 110, 105, 116, 121]) = b3)
    (h : Hid (b1 = true ∨ b2 = true ∨ b3 = true)) (a : Ans) (ha : Hid (a = if b1 then ⟨2, 0, true⟩ else if b2 then ⟨3, 0, true⟩ else ⟨4, 0, true⟩)) :
    Calls Tryz.prog 129 #[.string s] w fun e w' => e = .returned (.tuple #[.agg #[.int .i64 a.k, .int .i64 a.n], .bool a.ok]) ∧ Plus w w' := by
  obtain rfl := ha.out
  cases b1
  · cases b2
    · cases b3
      · have q := h.out
        simp at q
      · go_enter Tryz.func129, Tryz.ntmps129
        go_wp2_with (go_at_call 162; refine (infinity_c _ _).mono ?_; rintro e w1 ⟨rfl, ⟨x3, rfl⟩⟩)
        go_returns
        refine ⟨by simp [infK], ?_⟩
        repeat' (first | exact Plus.refl _ | refine Plus.alloc ?_ _ | refine Plus.plus ?_ _ | refine Plus.drew ?_ | refine Plus.drewN ?_ _)
    · go_enter Tryz.func129, Tryz.ntmps129
      go_wp2_with (go_at_call 162; refine (infinity_c _ _).mono ?_; rintro e w1 ⟨rfl, ⟨x3, rfl⟩⟩)
      go_returns
      refine ⟨by simp [infK], ?_⟩
      repeat' (first | exact Plus.refl _ | refine Plus.alloc ?_ _ | refine Plus.plus ?_ _ | refine Plus.drew ?_ | refine Plus.drewN ?_ _)
  · go_enter Tryz.func129, Tryz.ntmps129
    go_wp2_with (go_at_call 154; refine (nan_c _).mono ?_; rintro e w1 ⟨rfl, ⟨x3, rfl⟩⟩)
    go_returns
    refine ⟨by simp, ?_⟩
    repeat' (first | exact Plus.refl _ | refine Plus.alloc ?_ _ | refine Plus.plus ?_ _ | refine Plus.drew ?_ | refine Plus.drewN ?_ _)
/-- Parse, of any text that is not too long. -/
theorem parse_c (s : ByteArray) (hs : s.size ≤ 281474976710656) (w : World) (hL : Lai w) :
    Calls Tryz.prog 129 #[.string s] w fun e w' => e = .returned (.tuple #[.agg #[.int .i64 (parS s.data.toList).k, .int .i64 (parS s.data.toList).n], .bool (parS s.data.toList).ok]) ∧ Plus w w' := by
  by_cases h1 : s.data.toList = [78, 97, 78] ∨ s.data.toList = [73, 110, 102, 105, 110, 105, 116, 121] ∨ s.data.toList = [45, 73, 110, 102, 105, 110, 105, 116, 121]
  · refine parse_name s w _ _ _ (data_eq s _) (data_eq s _) (data_eq s _) (Lib.hid (by simpa using h1)) _ (Lib.hid ?_)
    unfold parS
    by_cases a : s.data.toList = [78, 97, 78]
    · simp [a]
    · by_cases b : s.data.toList = [73, 110, 102, 105, 110, 105, 116, 121]
      · simp [b]
      · have c := (h1.resolve_left a).resolve_left b
        simp [c]
  · have n1 : ¬ s.data.toList = [78, 97, 78] := fun e => h1 (.inl e)
    have n2 : ¬ s.data.toList = [73, 110, 102, 105, 110, 105, 116, 121] := fun e => h1 (.inr (.inl e))
    have n3 : ¬ s.data.toList = [45, 73, 110, 102, 105, 110, 105, 116, 121] := fun e => h1 (.inr (.inr e))
    have b1 := data_eq s [78, 97, 78]
    have b2 := data_eq s [73, 110, 102, 105, 110, 105, 116, 121]
    have b3 := data_eq s [45, 73, 110, 102, 105, 110, 105, 116, 121]
    rw [decide_eq_false n1] at b1
    rw [decide_eq_false n2] at b2
    rw [decide_eq_false n3] at b3
    by_cases hv : ∃ v, Lib.atoiAll s.data.toList = .ok v
    · obtain ⟨v, hv⟩ := hv
      refine parse_yes s hs w (Lib.hid hL) b1 b2 b3 v (Lib.hid hv) _ (Lib.hid rfl) _ (Lib.hid rfl) _ (Lib.hid ?_)
      unfold parS
      rw [if_neg n1, if_neg n2, if_neg n3, hv]
      simp
    · have e : parS s.data.toList = ⟨2, 0, false⟩ := by
        unfold parS
        rw [if_neg n1, if_neg n2, if_neg n3]
        cases q : Lib.atoiAll s.data.toList with
        | ok v => exact absurd ⟨v, q⟩ hv
        | _ => rfl
      rw [e]
      exact parse_no s hs w (Lib.hid hL) b1 b2 b3 (Lib.hid fun v q => hv ⟨v, q⟩)
end Go.Proofs.YtmlfcmmgoiigkaaGreatDoor
