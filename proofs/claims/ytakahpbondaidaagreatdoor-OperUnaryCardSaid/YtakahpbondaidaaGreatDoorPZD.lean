/- The plain functions that the walks of chapter 1 speak of: numbers as a kind and an integer. -/
import Derived.Test.YtakahpbondaidaaGreatDoorPZC
namespace Go.Proofs.YtakahpbondaidaaGreatDoor

def mayB (k n : Int) : Bool := if k == 0 then decide (-9007199254740991 ≤ n) && decide (n ≤ 9007199254740991) else (k == 1 || k == 2 || k == 3 || k == 4) && n == 0
def vk (k n : Int) : Int := if mayB k n = true then k else 2
def vn (k n : Int) : Int := if mayB k n = true then n else 0

/-- What a number that may be is. -/
def IsV (p q : Int) : Prop := (p = 0 ∧ -9007199254740991 ≤ q ∧ q ≤ 9007199254740991) ∨ (p = 1 ∧ q = 0) ∨ (p = 2 ∧ q = 0) ∨ (p = 3 ∧ q = 0) ∨ (p = 4 ∧ q = 0)

theorem isV_v (k n : Int) : IsV (vk k n) (vn k n) := by
  unfold vk vn
  by_cases h : mayB k n = true
  · simp only [if_pos h]
    unfold mayB at h
    unfold IsV
    by_cases h0 : k = 0
    · subst h0; simp at h; omega
    · simp [h0] at h; omega
  · simp only [if_neg h]; unfold IsV; omega

theorem mayB_of_isV {p q : Int} (h : IsV p q) : mayB p q = true := by
  unfold mayB
  rcases h with ⟨rfl, h1, h2⟩ | ⟨rfl, rfl⟩ | ⟨rfl, rfl⟩ | ⟨rfl, rfl⟩ | ⟨rfl, rfl⟩ <;> simp <;> omega

theorem vk_of {p q : Int} (h : IsV p q) : vk p q = p := by unfold vk; rw [if_pos (mayB_of_isV h)]
theorem vn_of {p q : Int} (h : IsV p q) : vn p q = q := by unfold vn; rw [if_pos (mayB_of_isV h)]

/-- An answer: kind, number, whether it is in the set. -/
structure Ans where
  k : Int
  n : Int
  ok : Bool

def ofS (n : Int) : Ans := if -9007199254740991 ≤ n ∧ n ≤ 9007199254740991 then ⟨0, n, true⟩ else ⟨2, 0, false⟩

def addS (p q r s : Int) : Ans :=
  if p = 2 ∨ r = 2 ∨ ((p = 3 ∨ p = 4) ∧ (r = 3 ∨ r = 4) ∧ p ≠ r) then ⟨2, 0, true⟩
  else if p = 3 ∨ p = 4 then ⟨p, q, true⟩
  else if r = 3 ∨ r = 4 then ⟨r, s, true⟩
  else if p = 1 ∧ r = 1 then ⟨1, 0, true⟩
  else ofS (q + s)

def addR (k n l m : Int) : Ans := addS (vk k n) (vn k n) (vk l m) (vn l m)

def negB (k n : Int) : Bool := k == 0 && decide (n < 0) || (k == 1 || k == 4)
def zeroB (k n : Int) : Bool := k == 1 || (k == 0 && n == 0)
def infK (b : Bool) : Int := if b = true then 4 else 3
def zeroK (b : Bool) : Int := if b = true then 1 else 0
def divS (p q r s : Int) : Ans :=
  if p = 2 ∨ r = 2 ∨ ((p = 3 ∨ p = 4) ∧ (r = 3 ∨ r = 4)) ∨ (zeroB p q = true ∧ zeroB r s = true) then ⟨2, 0, true⟩
  else if p = 3 ∨ p = 4 ∨ zeroB r s = true then ⟨infK (!(negB p q == negB r s)), 0, true⟩
  else if r = 3 ∨ r = 4 ∨ zeroB p q = true then ⟨zeroK (!(negB p q == negB r s)), 0, true⟩
  else if q.tmod s = 0 then ofS (q.tdiv s) else ⟨2, 0, false⟩
def divR (k n l m : Int) : Ans := divS (vk k n) (vn k n) (vk l m) (vn l m)

/-- A number: its kind, its integer. -/
structure Nm where
  k : Int
  n : Int

def negS (p q : Int) : Nm :=
  if p = 1 then ⟨0, 0⟩ else if p = 3 then ⟨4, 0⟩ else if p = 4 then ⟨3, 0⟩ else if p = 2 then ⟨2, 0⟩ else if q = 0 then ⟨1, 0⟩ else ⟨0, -q⟩
def negR (k n : Int) : Nm := negS (vk k n) (vn k n)
def wholeS (p q : Int) : Nm := if p = 2 ∨ p = 1 then ⟨0, 0⟩ else ⟨p, q⟩
def wholeR (k n : Int) : Nm := wholeS (vk k n) (vn k n)
def wordS (p q : Int) : Int := if p = 0 then q % 4294967296 else 0
def wordR (k n : Int) : Int := wordS (vk k n) (vn k n)

def place (k n : Int) : Int := if k = 3 then 9007199254740992 else if k = 4 then -9007199254740992 else n
theorem tdiv_le {q : Int} (s : Int) (h1 : -9007199254740991 ≤ q) (h2 : q ≤ 9007199254740991) : -9007199254740991 ≤ q.tdiv s ∧ q.tdiv s ≤ 9007199254740991 := by
  have e : (q.tdiv s).natAbs ≤ q.natAbs := by rw [Int.natAbs_tdiv]; exact Nat.div_le_self _ _
  omega

/-- A valid number, by cases: a whole one that is 0, one that is not, one of the others. -/
theorem isV6 {p q : Int} (h : IsV p q) : (p = 0 ∧ q = 0) ∨ (p = 0 ∧ q ≠ 0 ∧ -9007199254740991 ≤ q ∧ q ≤ 9007199254740991) ∨ (p = 1 ∧ q = 0) ∨ (p = 2 ∧ q = 0) ∨ (p = 3 ∧ q = 0) ∨ (p = 4 ∧ q = 0) := by
  unfold IsV at h; omega
end Go.Proofs.YtakahpbondaidaaGreatDoor
namespace Go.Proofs.YtakahpbondaidaaGreatDoor
open Go.RowKit

theorem beq_f {a b : Int} (h : a ≠ b) : (a == b) = false := by simpa using h

theorem nan_c  (w : World) : Calls Tryz.prog 202 #[] w fun e w' => e = .returned (.agg #[.int .i64 2, .int .i64 0]) ∧ Plus w w' := by
  go_enter Tryz.func202, Tryz.ntmps202
  go_wp2
  go_returns
  exact ⟨rfl, (Plus.refl _).alloc _⟩

theorem infinity_c (b : Bool) (w : World) : Calls Tryz.prog 217 #[.bool b] w fun e w' => e = .returned (.agg #[.int .i64 (infK b), .int .i64 0]) ∧ Plus w w' := by
  cases b
  · go_enter Tryz.func217, Tryz.ntmps217
    go_wp2
    go_returns
    exact ⟨rfl, (Plus.refl _).alloc _⟩
  · go_enter Tryz.func217, Tryz.ntmps217
    go_wp2
    go_returns
    exact ⟨rfl, (Plus.refl _).alloc _⟩

theorem zero_c (b : Bool) (w : World) : Calls Tryz.prog 128 #[.bool b] w fun e w' => e = .returned (.agg #[.int .i64 (zeroK b), .int .i64 0]) ∧ Plus w w' := by
  cases b
  · go_enter Tryz.func128, Tryz.ntmps128
    go_wp2
    go_returns
    exact ⟨rfl, (Plus.refl _).alloc _⟩
  · go_enter Tryz.func128, Tryz.ntmps128
    go_wp2
    go_returns
    exact ⟨rfl, (Plus.refl _).alloc _⟩

theorem may_c (k n : Int) (w : World) : Calls Tryz.prog 175 #[.agg #[.int .i64 k, .int .i64 n]] w fun e w' => e = .returned (.bool (mayB k n)) ∧ Plus w w' := by
  have hm : ∀ b : Bool, b = mayB k n → (Value.bool b) = .bool (mayB k n) := fun b h => by rw [h]
  have HM := Lib.hid hm; clear hm
  go_enter Tryz.func175, Tryz.ntmps175
  go_wp2
  all_goals go_ret
  all_goals refine ⟨congrArg Ending.returned (HM.out _ ?_), (Plus.refl _).alloc _⟩
  all_goals (unfold mayB; simp_all)
  all_goals omega

theorem valid_c (k n : Int) (w : World) : Calls Tryz.prog 116 #[.agg #[.int .i64 k, .int .i64 n]] w fun e w' => e = .returned (.agg #[.int .i64 (vk k n), .int .i64 (vn k n)]) ∧ Plus w w' := by
  by_cases h : mayB k n = true
  · have h1 : vk k n = k := by unfold vk; rw [if_pos h]
    have h2 : vn k n = n := by unfold vn; rw [if_pos h]
    rw [h1, h2]; clear h1 h2
    go_enter Tryz.func116, Tryz.ntmps116
    go_wp2_with (first | (go_at_call 175; refine (may_c _ _ _).mono ?_; rintro e w1 ⟨rfl, ⟨x1, rfl⟩⟩) | (go_at_call 202; refine (nan_c _).mono ?_; rintro e w1 ⟨rfl, ⟨x2, rfl⟩⟩))
    go_returns
    refine ⟨rfl, ?_⟩
    repeat' (first | exact Plus.refl _ | refine Plus.alloc ?_ _ | refine Plus.plus ?_ _ | refine Plus.drew ?_ | refine Plus.drewN ?_ _)
  · have h1 : vk k n = 2 := by unfold vk; rw [if_neg h]
    have h2 : vn k n = 0 := by unfold vn; rw [if_neg h]
    have h' : mayB k n = false := by simpa using h
    rw [h1, h2]; clear h1 h2 h
    go_enter Tryz.func116, Tryz.ntmps116
    go_wp2_with (first | (go_at_call 175; refine (may_c _ _ _).mono ?_; rintro e w1 ⟨rfl, ⟨x1, rfl⟩⟩) | (go_at_call 202; refine (nan_c _).mono ?_; rintro e w1 ⟨rfl, ⟨x2, rfl⟩⟩))
    go_returns
    refine ⟨rfl, ?_⟩
    repeat' (first | exact Plus.refl _ | refine Plus.alloc ?_ _ | refine Plus.plus ?_ _ | refine Plus.drew ?_ | refine Plus.drewN ?_ _)

theorem valid_h {k n p q : Int} (h : Hid (vk k n = p ∧ vn k n = q)) (w : World) : Calls Tryz.prog 116 #[.agg #[.int .i64 k, .int .i64 n]] w fun e w' => e = .returned (.agg #[.int .i64 p, .int .i64 q]) ∧ Plus w w' := by
  obtain ⟨rfl, rfl⟩ := h.out
  exact valid_c k n w

theorem of_c (n : Int) (w : World) : Calls Tryz.prog 178 #[.int .i64 n] w fun e w' => e = .returned (.tuple #[.agg #[.int .i64 (ofS n).k, .int .i64 (ofS n).n], .bool (ofS n).ok]) ∧ Plus w w' := by
  by_cases h : -9007199254740991 ≤ n ∧ n ≤ 9007199254740991
  · have h1 : ofS n = ⟨0, n, true⟩ := by unfold ofS; rw [if_pos h]
    have hm : mayB 0 n = true := by unfold mayB; simp; exact h
    rw [h1]; clear h1 h
    go_enter Tryz.func178, Tryz.ntmps178
    go_wp2_with (first | (go_at_call 175; refine (may_c _ _ _).mono ?_; rintro e w1 ⟨rfl, ⟨x1, rfl⟩⟩) | (go_at_call 202; refine (nan_c _).mono ?_; rintro e w1 ⟨rfl, ⟨x2, rfl⟩⟩))
    go_returns
    refine ⟨rfl, ?_⟩
    repeat' (first | exact Plus.refl _ | refine Plus.alloc ?_ _ | refine Plus.plus ?_ _ | refine Plus.drew ?_ | refine Plus.drewN ?_ _)
  · have h1 : ofS n = ⟨2, 0, false⟩ := by unfold ofS; rw [if_neg h]
    have hm : mayB 0 n = false := by unfold mayB; simp; omega
    rw [h1]; clear h1 h
    go_enter Tryz.func178, Tryz.ntmps178
    go_wp2_with (first | (go_at_call 175; refine (may_c _ _ _).mono ?_; rintro e w1 ⟨rfl, ⟨x1, rfl⟩⟩) | (go_at_call 202; refine (nan_c _).mono ?_; rintro e w1 ⟨rfl, ⟨x2, rfl⟩⟩))
    go_returns
    refine ⟨rfl, ?_⟩
    repeat' (first | exact Plus.refl _ | refine Plus.alloc ?_ _ | refine Plus.plus ?_ _ | refine Plus.drew ?_ | refine Plus.drewN ?_ _)

set_option maxHeartbeats 2000000 in
theorem neg_h {k n p q : Int} (h1 : Hid (vk k n = p ∧ vn k n = q)) (hp : Hid (IsV p q)) (w : World) :
    Calls Tryz.prog 144 #[.agg #[.int .i64 k, .int .i64 n]] w fun e w' => e = .returned (.agg #[.int .i64 (negS p q).k, .int .i64 (negS p q).n]) ∧ Plus w w' := by
  have g1 := hp.out
  clear hp
  rcases isV6 g1 with ⟨rfl, rfl⟩ | ⟨rfl, hq0, hq1, hq2⟩ | ⟨rfl, rfl⟩ | ⟨rfl, rfl⟩ | ⟨rfl, rfl⟩ | ⟨rfl, rfl⟩
  all_goals clear g1
  all_goals first | (have hqb := beq_f hq0) | skip
  all_goals go_enter Tryz.func144, Tryz.ntmps144
  all_goals go_wp2_with (first | (go_at_call 116; refine (valid_h h1 _).mono ?_; rintro e w1 ⟨rfl, ⟨x0, rfl⟩⟩) | (go_at_call 217; refine (infinity_c _ _).mono ?_; rintro e w1 ⟨rfl, ⟨x2, rfl⟩⟩) | (go_at_call 128; refine (zero_c _ _).mono ?_; rintro e w1 ⟨rfl, ⟨x2, rfl⟩⟩))
  all_goals go_returns
  all_goals refine ⟨?_, ?_⟩
  all_goals first | (simp [negS, zeroK, infK, *]; done) | (with_reducible (repeat' (first | exact Plus.refl _ | refine Plus.alloc ?_ _ | refine Plus.plus ?_ _ | refine Plus.drew ?_ | refine Plus.drewN ?_ _)); done) | (simp_all [negS, zeroK, infK]; done) | skip
  all_goals go_show

theorem neg_c (k n : Int) (w : World) : Calls Tryz.prog 144 #[.agg #[.int .i64 k, .int .i64 n]] w fun e w' => e = .returned (.agg #[.int .i64 (negR k n).k, .int .i64 (negR k n).n]) ∧ Plus w w' :=
  neg_h ⟨rfl, rfl⟩ (isV_v k n) w

end Go.Proofs.YtakahpbondaidaaGreatDoor

namespace Go.Proofs.YtakahpbondaidaaGreatDoor
open Go.RowKit


/-- What Parse tells of a text's bytes. -/
def parS (l : List UInt8) : Ans :=
  if l = [78, 97, 78] then ⟨2, 0, true⟩ else if l = [73, 110, 102, 105, 110, 105, 116, 121] then ⟨3, 0, true⟩
  else if l = [45, 73, 110, 102, 105, 110, 105, 116, 121] then ⟨4, 0, true⟩
  else match Lib.atoiAll l with
    | .ok v => if Lib.itoa v = l then ofS v else ⟨2, 0, false⟩
    | _ => ⟨2, 0, false⟩
theorem atoi_bd {l : List UInt8} {v : Int} (h : Lib.atoiAll l = .ok v) : -9223372036854775808 ≤ v ∧ v ≤ 9223372036854775807 := by
  cases l with
  | nil => cases h
  | cons c r =>
    unfold Lib.atoiAll at h
    simp only at h
    cases q : Lib.parseMag (if c.toNat = 43 ∨ c.toNat = 45 then r else c :: r) with
    | ok u =>
      rw [q] at h
      simp only at h
      split at h
      · cases h
      · split at h
        · cases h
        · injection h with h
          split at h <;> omega
    | range => rw [q] at h; cases h
    | _ => rw [q] at h; cases h
theorem toList_data (s : ByteArray) : s.toList = s.data.toList := ByteArray.toList_eq s
theorem data_eq (s : ByteArray) (l : List UInt8) : (s.toList == l) = decide (s.data.toList = l) := by
  rw [toList_data, Bool.eq_iff_iff]
  simp
theorem data_eq2 (s : ByteArray) (l : List UInt8) : ((⟨l.toArray⟩ : ByteArray).toList == s.toList) = decide (l = s.data.toList) := by
  rw [toList_data, toList_data, Bool.eq_iff_iff]
  simp
set_option maxRecDepth 100000 in
set_option maxHeartbeats 4000000 in
theorem parse_no (s : ByteArray) (hs : s.size ≤ 281474976710656) (w : World) (hL : Hid (Lai w)) (b1 : (s.toList == [78, 97, 78]) = false) (b2 : (s.toList == [73, 110, 102, 105, 110, 105, 116, 121]) = false) (b3 : (s.toList == [45, 73, 110, 102, 105, 110, 105, 116, 121]) = false)
    (h : Hid (∀ v, Lib.atoiAll s.data.toList ≠ .ok v)) :
    Calls Tryz.prog 181 #[.string s] w fun e w' => e = .returned (.tuple #[.agg #[.int .i64 2, .int .i64 0], .bool false]) ∧ Plus w w' := by
  go_enter Tryz.func181, Tryz.ntmps181
  go_wp2_with fail
  refine (atoi_no s hs h.out _ (hL.out.plus (by repeat' (first | exact Plus.refl _ | refine Plus.alloc ?_ _ | refine Plus.plus ?_ _ | refine Plus.drew ?_ | refine Plus.drewN ?_ _)))).mono ?_
  rintro e w1 ⟨n, p, rfl, ⟨x1, rfl⟩⟩
  go_wp2_with (first
    | (go_at_call 202; refine (nan_c _).mono ?_; rintro e w1 ⟨rfl, ⟨x3, rfl⟩⟩))
  go_returns
  refine ⟨rfl, ?_⟩
  repeat' (first | exact Plus.refl _ | refine Plus.alloc ?_ _ | refine Plus.plus ?_ _ | refine Plus.drew ?_ | refine Plus.drewN ?_ _)
set_option maxRecDepth 100000 in
set_option maxHeartbeats 4000000 in
theorem parse_yes (s : ByteArray) (hs : s.size ≤ 281474976710656) (w : World) (hL : Hid (Lai w)) (b1 : (s.toList == [78, 97, 78]) = false) (b2 : (s.toList == [73, 110, 102, 105, 110, 105, 116, 121]) = false) (b3 : (s.toList == [45, 73, 110, 102, 105, 110, 105, 116, 121]) = false)
    (v : Int) (h : Hid (Lib.atoiAll s.data.toList = .ok v)) (T : ByteArray) (hT : Hid (T = ⟨(Lib.itoa v).toArray⟩)) (q : Bool) (hq : Hid (decide (Lib.itoa v = s.data.toList) = q)) (a : Ans) (ha : Hid (a = if q then ofS v else ⟨2, 0, false⟩)) :
    Calls Tryz.prog 181 #[.string s] w fun e w' => e = .returned (.tuple #[.agg #[.int .i64 a.k, .int .i64 a.n], .bool a.ok]) ∧ Plus w w' := by
  have hb := Lib.hid (atoi_bd h.out)
  have bT : (T.toList == s.toList) = q := by rw [hT.out, data_eq2, hq.out]
  obtain rfl := ha.out
  cases q
  all_goals
    go_enter Tryz.func181, Tryz.ntmps181
    go_wp2_with fail
    refine (atoi_yes s hs v h.out _).mono ?_
    rintro e w1 ⟨rfl, ⟨x1, rfl⟩⟩
    go_wp2_with (first
    | (go_at_call 117; refine (itoa_c v hb.out.1 hb.out.2 _ (hL.out.plus (by repeat' (first | exact Plus.refl _ | refine Plus.alloc ?_ _ | refine Plus.plus ?_ _ | refine Plus.drew ?_ | refine Plus.drewN ?_ _)))).mono ?_; rintro e w1 ⟨rfl, ⟨x2, rfl⟩⟩; rw [← hT.out])
    | (go_at_call 202; refine (nan_c _).mono ?_; rintro e w1 ⟨rfl, ⟨x3, rfl⟩⟩)
    | (go_at_call 178; refine (of_c _ _).mono ?_; rintro e w1 ⟨rfl, ⟨x3, rfl⟩⟩))
    go_returns
    refine ⟨by simp, ?_⟩
    repeat' (first | exact Plus.refl _ | refine Plus.alloc ?_ _ | refine Plus.plus ?_ _ | refine Plus.drew ?_ | refine Plus.drewN ?_ _)
set_option maxRecDepth 100000 in
set_option maxHeartbeats 4000000 in
theorem parse_name (s : ByteArray) (w : World) (b1 b2 b3 : Bool) (h1 : (s.toList == [78, 97, 78]) = b1) (h2 : (s.toList == [73, 110, 102, 105, 110, 105, 116, 121]) = b2) (h3 : (s.toList == [45, 73, 110, 102, 105, 110, 105, 116, 121]) = b3)
    (h : Hid (b1 = true ∨ b2 = true ∨ b3 = true)) (a : Ans) (ha : Hid (a = if b1 then ⟨2, 0, true⟩ else if b2 then ⟨3, 0, true⟩ else ⟨4, 0, true⟩)) :
    Calls Tryz.prog 181 #[.string s] w fun e w' => e = .returned (.tuple #[.agg #[.int .i64 a.k, .int .i64 a.n], .bool a.ok]) ∧ Plus w w' := by
  obtain rfl := ha.out
  cases b1
  · cases b2
    · cases b3
      · have q := h.out
        simp at q
      · go_enter Tryz.func181, Tryz.ntmps181
        go_wp2_with (go_at_call 217; refine (infinity_c _ _).mono ?_; rintro e w1 ⟨rfl, ⟨x3, rfl⟩⟩)
        go_returns
        refine ⟨by simp [infK], ?_⟩
        repeat' (first | exact Plus.refl _ | refine Plus.alloc ?_ _ | refine Plus.plus ?_ _ | refine Plus.drew ?_ | refine Plus.drewN ?_ _)
    · go_enter Tryz.func181, Tryz.ntmps181
      go_wp2_with (go_at_call 217; refine (infinity_c _ _).mono ?_; rintro e w1 ⟨rfl, ⟨x3, rfl⟩⟩)
      go_returns
      refine ⟨by simp [infK], ?_⟩
      repeat' (first | exact Plus.refl _ | refine Plus.alloc ?_ _ | refine Plus.plus ?_ _ | refine Plus.drew ?_ | refine Plus.drewN ?_ _)
  · go_enter Tryz.func181, Tryz.ntmps181
    go_wp2_with (go_at_call 202; refine (nan_c _).mono ?_; rintro e w1 ⟨rfl, ⟨x3, rfl⟩⟩)
    go_returns
    refine ⟨by simp, ?_⟩
    repeat' (first | exact Plus.refl _ | refine Plus.alloc ?_ _ | refine Plus.plus ?_ _ | refine Plus.drew ?_ | refine Plus.drewN ?_ _)
/-- Parse, of any text that is not too long. -/
theorem parse_c (s : ByteArray) (hs : s.size ≤ 281474976710656) (w : World) (hL : Lai w) :
    Calls Tryz.prog 181 #[.string s] w fun e w' => e = .returned (.tuple #[.agg #[.int .i64 (parS s.data.toList).k, .int .i64 (parS s.data.toList).n], .bool (parS s.data.toList).ok]) ∧ Plus w w' := by
  by_cases h1 : s.data.toList = [78, 97, 78] ∨ s.data.toList = [73, 110, 102, 105, 110, 105, 116, 121] ∨ s.data.toList = [45, 73, 110, 102, 105, 110, 105, 116, 121]
  · refine parse_name s w _ _ _ (data_eq s _) (data_eq s _) (data_eq s _) (Lib.hid (by simpa using h1)) _ (Lib.hid ?_)
    unfold parS
    by_cases a : s.data.toList = [78, 97, 78]
    · simp [a]
    · by_cases b : s.data.toList = [73, 110, 102, 105, 110, 105, 116, 121]
      · simp [b]
      · have c := (h1.resolve_left a).resolve_left b
        simp [c]
  · have n1 : ¬ s.data.toList = [78, 97, 78] := fun e => h1 (.inl e)
    have n2 : ¬ s.data.toList = [73, 110, 102, 105, 110, 105, 116, 121] := fun e => h1 (.inr (.inl e))
    have n3 : ¬ s.data.toList = [45, 73, 110, 102, 105, 110, 105, 116, 121] := fun e => h1 (.inr (.inr e))
    have b1 := data_eq s [78, 97, 78]
    have b2 := data_eq s [73, 110, 102, 105, 110, 105, 116, 121]
    have b3 := data_eq s [45, 73, 110, 102, 105, 110, 105, 116, 121]
    rw [decide_eq_false n1] at b1
    rw [decide_eq_false n2] at b2
    rw [decide_eq_false n3] at b3
    by_cases hv : ∃ v, Lib.atoiAll s.data.toList = .ok v
    · obtain ⟨v, hv⟩ := hv
      refine parse_yes s hs w (Lib.hid hL) b1 b2 b3 v (Lib.hid hv) _ (Lib.hid rfl) _ (Lib.hid rfl) _ (Lib.hid ?_)
      unfold parS
      rw [if_neg n1, if_neg n2, if_neg n3, hv]
      simp
    · have e : parS s.data.toList = ⟨2, 0, false⟩ := by
        unfold parS
        rw [if_neg n1, if_neg n2, if_neg n3]
        cases q : Lib.atoiAll s.data.toList with
        | ok v => exact absurd ⟨v, q⟩ hv
        | _ => rfl
      rw [e]
      exact parse_no s hs w (Lib.hid hL) b1 b2 b3 (Lib.hid fun v q => hv ⟨v, q⟩)
end Go.Proofs.YtakahpbondaidaaGreatDoor
namespace Go.Proofs.YtakahpbondaidaaGreatDoor
open Go.RowKit


/-- A list of bytes as a string. -/
def str (l : List UInt8) : ByteArray := ⟨l.toArray⟩
theorem str_data (l : List UInt8) : (str l).data.toList = l := rfl
theorem str_size (l : List UInt8) : (str l).size = l.length := by show l.toArray.size = _; simp
theorem str_list (l : List UInt8) : (str l).toList = l := by rw [toList_data, str_data]
/-- Without the one sign that may stand in front. -/
def unsT (l : List UInt8) : List UInt8 := if Lib.hasPrefix l [45] then Lib.trimPrefix l [45] else Lib.trimPrefix l [43]
set_option maxRecDepth 100000 in
theorem unsigned_c (l : List UInt8) (w : World) : Calls Tryz.prog 177 #[.string (str l)] w fun e w' => e = .returned (.tuple #[.string (str (unsT l)), .bool (Lib.hasPrefix l [45])]) ∧ w = w' := by
  have hcp : ∀ w : World, Calls Tryz.prog 194 #[.string (str l), .string ⟨#[45]⟩] w fun e w' => e = .returned (.tuple #[.string (str (Lib.trimPrefix l [45])), .bool (Lib.hasPrefix l [45])]) ∧ w = w' := fun w => cutPrefix_c (str l) ⟨#[45]⟩ w
  have htp : ∀ w : World, Calls Tryz.prog 195 #[.string (str l), .string ⟨#[43]⟩] w fun e w' => e = .returned (.string (str (Lib.trimPrefix l [43]))) ∧ w = w' := fun w => trimPrefix_c (str l) ⟨#[43]⟩ w
  obtain ⟨u, hu⟩ : ∃ u, unsT l = u := ⟨_, rfl⟩
  obtain ⟨a, ha⟩ : ∃ a, Lib.trimPrefix l [45] = a := ⟨_, rfl⟩
  obtain ⟨c, hc⟩ : ∃ c, Lib.trimPrefix l [43] = c := ⟨_, rfl⟩
  obtain ⟨b, hb⟩ : ∃ b, Lib.hasPrefix l [45] = b := ⟨_, rfl⟩
  have hU : u = if b then a else c := by rw [← hu, ← ha, ← hc, ← hb]; rfl
  rw [ha, hb] at hcp
  rw [hc] at htp
  rw [hb, hu]
  clear hu ha hc hb
  have HU := Lib.hid hU
  clear hU
  have HC := Lib.hid hcp
  have HT := Lib.hid htp
  clear hcp htp
  cases b
  · go_enter Tryz.func177, Tryz.ntmps177
    go_wp2_with (first
      | (go_at_call 194; refine (HC.out _).mono ?_; rintro e w1 ⟨rfl, rfl⟩)
      | (go_at_call 195; refine (HT.out _).mono ?_; rintro e w1 ⟨rfl, rfl⟩))
    go_returns
    refine ⟨?_, rfl⟩
    rw [HU.out]
    rfl
  · go_enter Tryz.func177, Tryz.ntmps177
    go_wp2_with (first
      | (go_at_call 194; refine (HC.out _).mono ?_; rintro e w1 ⟨rfl, rfl⟩))
    go_returns
    refine ⟨?_, rfl⟩
    rw [HU.out]
    rfl
/-- A number, or its opposite. -/
def sgnK (b : Bool) (k n : Int) : Int := if b then (negR k n).k else k
def sgnN (b : Bool) (k n : Int) : Int := if b then (negR k n).n else n
theorem signed_c (b : Bool) (k n : Int) (w : World) : Calls Tryz.prog 179 #[.bool b, .agg #[.int .i64 k, .int .i64 n]] w fun e w' => e = .returned (.agg #[.int .i64 (sgnK b k n), .int .i64 (sgnN b k n)]) ∧ Plus w w' := by
  cases b
  · go_enter Tryz.func179, Tryz.ntmps179
    go_wp2_with (fail)
    go_returns
    exact ⟨rfl, (by repeat' (first | exact Plus.refl _ | refine Plus.alloc ?_ _ | refine Plus.plus ?_ _ | refine Plus.drew ?_ | refine Plus.drewN ?_ _))⟩
  · go_enter Tryz.func179, Tryz.ntmps179
    go_wp2_with (go_at_call 144; refine (neg_c _ _ _).mono ?_; rintro e w1 ⟨rfl, ⟨x1, rfl⟩⟩)
    go_returns
    exact ⟨rfl, (by repeat' (first | exact Plus.refl _ | refine Plus.alloc ?_ _ | refine Plus.plus ?_ _ | refine Plus.drew ?_ | refine Plus.drewN ?_ _))⟩
def asc (l : List UInt8) : Prop := ∀ x ∈ l, x.toNat < 128
theorem asc_get {l : List UInt8} (h : asc l) : ∀ (j : Nat) b, (str l).data.toList[j]? = some b → b.toNat < 128 := fun _ _ hb => h _ (List.mem_of_getElem? hb)
theorem hasOnly_c (l s : List UInt8) (w : World) (hl : l.length ≤ 1099511627776) (hs : s.length ≤ 1048576) (ha : asc s) (b : Bool) (hb : Hid (decide (Lib.trimS l s = []) = b)) : Calls Tryz.prog 180 #[.string (str l), .string (str s)] w fun e w' => e = .returned (.bool b) ∧ Plus w w' := by
  have htr : ∀ w : World, Calls Tryz.prog 106 #[.string (str l), .string (str s)] w fun e w' => e = .returned (.string (str (Lib.trimS l s))) ∧ Plus w w' := fun w => trim_c (str l) (str s) w (by rw [str_size]; omega) (by rw [str_size]; omega) (asc_get ha)
  have HT := Lib.hid htr
  clear htr
  have e1 : ((str (Lib.trimS l s)).toList == []) = b := by rw [str_list, ← hb.out, Bool.eq_iff_iff]; simp
  have e2 : (str (Lib.trimS l s)).toList.isEmpty = b := by rw [← e1]; cases (str (Lib.trimS l s)).toList <;> rfl
  go_enter Tryz.func180, Tryz.ntmps180
  go_wp2_with (go_at_call 106; refine (HT.out _).mono ?_; rintro e w1 ⟨rfl, ⟨x1, rfl⟩⟩)
  go_ret
  exact ⟨rfl, (by repeat' (first | exact Plus.refl _ | refine Plus.alloc ?_ _ | refine Plus.plus ?_ _ | refine Plus.drew ?_ | refine Plus.drewN ?_ _))⟩
def wzT (l : List UInt8) : List UInt8 := if Lib.trimLeftS l [48] = [] then [48] else Lib.trimLeftS l [48]
theorem withoutZeros_c (l : List UInt8) (w : World) : Calls Tryz.prog 182 #[.string (str l)] w fun e w' => e = .returned (.string (str (wzT l))) ∧ Plus w w' := by
  have htr : ∀ w : World, Calls Tryz.prog 196 #[.string (str l), .string ⟨#[48]⟩] w fun e w' => e = .returned (.string (str (Lib.trimLeftS l [48]))) ∧ Plus w w' := fun w => trimLeft_c (str l) ⟨#[48]⟩ w (by decide) (fun j b hb => by
    have : b ∈ [(48 : UInt8)] := List.mem_of_getElem? hb
    simp at this
    subst this
    decide)
  have HT := Lib.hid htr
  clear htr
  obtain ⟨t, ht⟩ : ∃ t, Lib.trimLeftS l [48] = t := ⟨_, rfl⟩
  obtain ⟨u, hu⟩ : ∃ u, wzT l = u := ⟨_, rfl⟩
  have hW : u = if t = [] then [48] else t := by rw [← hu, ← ht]; rfl
  obtain ⟨T, hT⟩ : ∃ T, str t = T := ⟨_, rfl⟩
  rw [ht, hT] at HT
  rw [hu]
  clear hu ht
  by_cases h0 : t = []
  · have e1 : T.toList = [] := by rw [← hT, str_list, h0]
    have e2 : (T.toList == []) = true := by rw [e1]; rfl
    have e3 : T.toList.isEmpty = true := by rw [e1]; rfl
    rw [if_pos h0] at hW
    have HW := Lib.hid hW
    clear h0 hT hW
    go_enter Tryz.func182, Tryz.ntmps182
    go_wp2_with (go_at_call 196; refine (HT.out _).mono ?_; rintro e w1 ⟨rfl, ⟨x1, rfl⟩⟩)
    go_ret
    exact ⟨by rw [HW.out]; rfl, (by repeat' (first | exact Plus.refl _ | refine Plus.alloc ?_ _ | refine Plus.plus ?_ _ | refine Plus.drew ?_ | refine Plus.drewN ?_ _))⟩
  · have e2 : (T.toList == []) = false := by rw [← hT, str_list]; simpa using h0
    have e3 : T.toList.isEmpty = false := by rw [← hT, str_list]; cases t with | nil => exact absurd rfl h0 | cons a l => rfl
    have e4 : ¬ T.toList = [] := by rw [← hT, str_list]; exact h0
    rw [if_neg h0] at hW
    have HW := Lib.hid hW
    have HTT := Lib.hid hT
    clear h0 hT hW
    go_enter Tryz.func182, Tryz.ntmps182
    go_wp2_with (go_at_call 196; refine (HT.out _).mono ?_; rintro e w1 ⟨rfl, ⟨x1, rfl⟩⟩)
    go_ret
    exact ⟨by rw [HW.out, HTT.out]; rfl, (by repeat' (first | exact Plus.refl _ | refine Plus.alloc ?_ _ | refine Plus.plus ?_ _ | refine Plus.drew ?_ | refine Plus.drewN ?_ _))⟩
end Go.Proofs.YtakahpbondaidaaGreatDoor

namespace Go.Proofs.YtakahpbondaidaaGreatDoor
open Go.RowKit


def blankS : List UInt8 := [32, 9, 10, 13]
def digS : List UInt8 := [48, 49, 50, 51, 52, 53, 54, 55, 56, 57]
def numS : List UInt8 := digS ++ [97, 98, 99, 100, 101, 102, 65, 66, 67, 68, 69, 70, 120, 88, 111, 79, 46, 43, 45, 95]
theorem trim_n {s c : ByteArray} {T : List UInt8} (hT : Hid (Lib.trimS s.data.toList c.data.toList = T)) (w : World) (hs : s.size ≤ 9223372036854775807) (hc : c.size < 4294967281) (ha : ∀ (j : Nat) b, c.data.toList[j]? = some b → b.toNat < 128) :
    Calls Tryz.prog 106 #[.string s, .string c] w fun e w' => e = .returned (.string (str T)) ∧ Plus w w' := by
  rw [← hT.out]
  exact trim_c s c w hs hc ha
theorem blank_asc : ∀ (j : Nat) b, (⟨#[32, 9, 10, 13]⟩ : ByteArray).data.toList[j]? = some b → b.toNat < 128 := fun j b hb => by
  have : b ∈ [(32 : UInt8), 9, 10, 13] := List.mem_of_getElem? hb
  simp at this
  rcases this with rfl | rfl | rfl | rfl <;> decide
theorem dig_asc : asc digS := by unfold asc digS; decide
theorem num_asc : asc numS := by unfold asc numS digS; decide
set_option maxRecDepth 100000 in
set_option maxHeartbeats 4000000 in
theorem number_low (A : Option Addr) (xs : List Nat) (n c : Nat) (w : World) (h : Hid (Ar .u16 65536 w A xs n c)) (hs : n ≤ 1048576) (hl : Hid (low xs = false)) :
    Calls Tryz.prog 96 #[.slice A n c] w fun e w' => e = .returned (.tuple #[.agg #[.int .i64 2, .int .i64 0], .bool true]) ∧ Plus w w' := by
  go_enter Tryz.func96, Tryz.ntmps96
  go_wp2_with (go_at_call 105; refine (plain_c _ _ _ _ _ (⟨h.out.rd.plus (by repeat' (first | exact Plus.refl _ | refine Plus.alloc ?_ _ | refine Plus.plus ?_ _ | refine Plus.drew ?_ | refine Plus.drewN ?_ _)), h.out.len, h.out.cap, h.out.max, h.out.bd⟩) (by omega)).mono ?_; rintro e w1 ⟨rfl, ⟨x1, rfl⟩⟩; rw [hl.out])
  go_returns
  exact ⟨rfl, (by repeat' (first | exact Plus.refl _ | refine Plus.alloc ?_ _ | refine Plus.plus ?_ _ | refine Plus.drew ?_ | refine Plus.drewN ?_ _))⟩
set_option maxRecDepth 100000 in
set_option maxHeartbeats 4000000 in
theorem number_nil (A : Option Addr) (xs : List Nat) (n c : Nat) (w : World) (h : Hid (Ar .u16 65536 w A xs n c)) (hs : n ≤ 1048576) (hl : Hid (low xs = true)) (hT : Hid (Lib.trimS (plS xs).data.toList (⟨#[32, 9, 10, 13]⟩ : ByteArray).data.toList = [])) (hz : (plS xs).size ≤ 1048576) :
    Calls Tryz.prog 96 #[.slice A n c] w fun e w' => e = .returned (.tuple #[.agg #[.int .i64 0, .int .i64 0], .bool true]) ∧ Plus w w' := by
  have t1 : (str []).toList = [] := str_list []
  have hu := unsigned_c []
  have e1 : unsT [] = [] := rfl
  have e2 : Lib.hasPrefix ([] : List UInt8) [45] = false := rfl
  rw [e1, e2] at hu
  have HU := Lib.hid hu
  have h0 : (ofS 0) = ⟨0, 0, true⟩ := rfl
  have H0 := Lib.hid h0
  clear hu h0 e1 e2
  go_enter Tryz.func96, Tryz.ntmps96
  go_wp2_with (first
    | (go_at_call 105; refine (plain_c _ _ _ _ _ (⟨h.out.rd.plus (by repeat' (first | exact Plus.refl _ | refine Plus.alloc ?_ _ | refine Plus.plus ?_ _ | refine Plus.drew ?_ | refine Plus.drewN ?_ _)), h.out.len, h.out.cap, h.out.max, h.out.bd⟩) (by omega)).mono ?_; rintro e w1 ⟨rfl, ⟨x1, rfl⟩⟩; rw [hl.out])
    | (go_at_call 106; refine (trim_n hT _ (by omega) (by decide) blank_asc).mono ?_; rintro e w1 ⟨rfl, ⟨x2, rfl⟩⟩)
    | (go_at_call 177; refine (HU.out _).mono ?_; rintro e w1 ⟨rfl, rfl⟩)
    | (go_at_call 178; refine (of_c _ _).mono ?_; rintro e w1 ⟨rfl, ⟨x3, rfl⟩⟩; rw [H0.out]))
  go_returns
  exact ⟨rfl, (by repeat' (first | exact Plus.refl _ | refine Plus.alloc ?_ _ | refine Plus.plus ?_ _ | refine Plus.drew ?_ | refine Plus.drewN ?_ _))⟩
theorem str_ne {T : List UInt8} (h : T ≠ []) : ((str T).toList == []) = false ∧ (str T).toList.isEmpty = false ∧ ¬ (str T).toList = [] := by
  rw [str_list]
  refine ⟨by simpa using h, ?_, h⟩
  cases T with
  | nil => exact absurd rfl h
  | cons a l => rfl
/-- "Infinity". -/
def infS : List UInt8 := [73, 110, 102, 105, 110, 105, 116, 121]
set_option maxRecDepth 100000 in
set_option maxHeartbeats 4000000 in
theorem number_inf (A : Option Addr) (xs : List Nat) (n c : Nat) (w : World) (h : Hid (Ar .u16 65536 w A xs n c)) (hs : n ≤ 1048576) (hl : Hid (low xs = true)) (T : List UInt8) (hT : Hid (Lib.trimS (plS xs).data.toList (⟨#[32, 9, 10, 13]⟩ : ByteArray).data.toList = T)) (hz : (plS xs).size ≤ 1048576)
    (hne : Hid (T ≠ [])) (Z : List UInt8) (hZ : Hid (unsT T = Z)) (b : Bool) (hb : Hid (Lib.hasPrefix T [45] = b)) (hi : Hid (Z = infS)) (k : Int) (hk : Hid (k = if b then 4 else 3)) :
    Calls Tryz.prog 96 #[.slice A n c] w fun e w' => e = .returned (.tuple #[.agg #[.int .i64 k, .int .i64 0], .bool true]) ∧ Plus w w' := by
  obtain ⟨t1, t2, t3⟩ := str_ne hne.out
  have hu := unsigned_c T
  rw [hZ.out, hb.out] at hu
  have HU := Lib.hid hu
  have i1 : ((str Z).toList == [73, 110, 102, 105, 110, 105, 116, 121]) = true := by rw [str_list, hi.out]; rfl
  have hsg : ∀ w : World, Calls Tryz.prog 179 #[.bool b, .agg #[.int .i64 3, .int .i64 0]] w fun e w' => e = .returned (.agg #[.int .i64 k, .int .i64 0]) ∧ Plus w w' := fun w => by
    have q := signed_c b 3 0 w
    have e1 : sgnK b 3 0 = k := by rw [hk.out]; cases b <;> rfl
    have e2 : sgnN b 3 0 = 0 := by cases b <;> rfl
    rw [e1, e2] at q
    exact q
  have HS := Lib.hid hsg
  clear hu hsg
  go_enter Tryz.func96, Tryz.ntmps96
  go_wp2_with (first
    | (go_at_call 105; refine (plain_c _ _ _ _ _ (⟨h.out.rd.plus (by repeat' (first | exact Plus.refl _ | refine Plus.alloc ?_ _ | refine Plus.plus ?_ _ | refine Plus.drew ?_ | refine Plus.drewN ?_ _)), h.out.len, h.out.cap, h.out.max, h.out.bd⟩) (by omega)).mono ?_; rintro e w1 ⟨rfl, ⟨x1, rfl⟩⟩; rw [hl.out])
    | (go_at_call 106; refine (trim_n hT _ (by omega) (by decide) blank_asc).mono ?_; rintro e w1 ⟨rfl, ⟨x2, rfl⟩⟩)
    | (go_at_call 177; refine (HU.out _).mono ?_; rintro e w1 ⟨rfl, rfl⟩)
    | (go_at_call 179; refine (HS.out _).mono ?_; rintro e w1 ⟨rfl, ⟨x3, rfl⟩⟩))
  go_returns
  exact ⟨rfl, (by repeat' (first | exact Plus.refl _ | refine Plus.alloc ?_ _ | refine Plus.plus ?_ _ | refine Plus.drew ?_ | refine Plus.drewN ?_ _))⟩
set_option maxRecDepth 100000 in
set_option maxHeartbeats 4000000 in
theorem number_dig (A : Option Addr) (xs : List Nat) (n c : Nat) (w : World) (hL : Hid (Lai w)) (h : Hid (Ar .u16 65536 w A xs n c)) (hs : n ≤ 1048576) (hl : Hid (low xs = true)) (T : List UInt8) (hT : Hid (Lib.trimS (plS xs).data.toList (⟨#[32, 9, 10, 13]⟩ : ByteArray).data.toList = T)) (hz : (plS xs).size ≤ 1048576)
    (hne : Hid (T ≠ [])) (Z : List UInt8) (hZ : Hid (unsT T = Z)) (b : Bool) (hb : Hid (Lib.hasPrefix T [45] = b)) (hi : Hid (Z ≠ infS)) (hzn : Hid (Z ≠ [])) (hzl : Z.length ≤ 1048576) (hd : Hid (decide (Lib.trimS Z digS = []) = true))
    (k m : Int) (ok : Bool) (hp : Hid (parS (wzT Z) = ⟨k, m, ok⟩)) (hwl : (wzT Z).length ≤ 1048577) (k2 m2 : Int) (hk : Hid (sgnK b k m = k2)) (hm : Hid (sgnN b k m = m2)) :
    Calls Tryz.prog 96 #[.slice A n c] w fun e w' => e = .returned (.tuple #[.agg #[.int .i64 k2, .int .i64 m2], .bool ok]) ∧ Plus w w' := by
  obtain ⟨t1, t2, t3⟩ := str_ne hne.out
  obtain ⟨z1, z2, z3⟩ := str_ne hzn.out
  have hu := unsigned_c T
  rw [hZ.out, hb.out] at hu
  have HU := Lib.hid hu
  have i1 : ((str Z).toList == [73, 110, 102, 105, 110, 105, 116, 121]) = false := by
    rw [str_list]
    have := hi.out
    unfold infS at this
    simpa using this
  have hsg := signed_c b k m
  rw [hk.out, hm.out] at hsg
  have HS := Lib.hid hsg
  have hho : ∀ w : World, Calls Tryz.prog 180 #[.string (str Z), .string ⟨#[48, 49, 50, 51, 52, 53, 54, 55, 56, 57]⟩] w fun e w' => e = .returned (.bool true) ∧ Plus w w' := fun w => hasOnly_c Z digS w (by omega) (by decide) dig_asc true hd
  have HH := Lib.hid hho
  have hpa : ∀ w : World, Lai w → Calls Tryz.prog 181 #[.string (str (wzT Z))] w fun e w' => e = .returned (.tuple #[.agg #[.int .i64 k, .int .i64 m], .bool ok]) ∧ Plus w w' := fun w hw => by
    have q := parse_c (str (wzT Z)) (by rw [str_size]; omega) w hw
    rw [str_data, hp.out] at q
    exact q
  have HP := Lib.hid hpa
  have hwz := withoutZeros_c Z
  have HW := Lib.hid hwz
  clear hu hsg hho hpa hwz
  go_enter Tryz.func96, Tryz.ntmps96
  go_wp2_with (first
    | (go_at_call 105; refine (plain_c _ _ _ _ _ (⟨h.out.rd.plus (by repeat' (first | exact Plus.refl _ | refine Plus.alloc ?_ _ | refine Plus.plus ?_ _ | refine Plus.drew ?_ | refine Plus.drewN ?_ _)), h.out.len, h.out.cap, h.out.max, h.out.bd⟩) (by omega)).mono ?_; rintro e w1 ⟨rfl, ⟨x1, rfl⟩⟩; rw [hl.out])
    | (go_at_call 106; refine (trim_n hT _ (by omega) (by decide) blank_asc).mono ?_; rintro e w1 ⟨rfl, ⟨x2, rfl⟩⟩)
    | (go_at_call 177; refine (HU.out _).mono ?_; rintro e w1 ⟨rfl, rfl⟩)
    | (go_at_call 180; refine (HH.out _).mono ?_; rintro e w1 ⟨rfl, ⟨x3, rfl⟩⟩)
    | (go_at_call 182; refine (HW.out _).mono ?_; rintro e w1 ⟨rfl, ⟨x4, rfl⟩⟩)
    | (go_at_call 181; refine (HP.out _ (hL.out.plus (by repeat' (first | exact Plus.refl _ | refine Plus.alloc ?_ _ | refine Plus.plus ?_ _ | refine Plus.drew ?_ | refine Plus.drewN ?_ _)))).mono ?_; rintro e w1 ⟨rfl, ⟨x5, rfl⟩⟩)
    | (go_at_call 179; refine (HS.out _).mono ?_; rintro e w1 ⟨rfl, ⟨x6, rfl⟩⟩))
  go_returns
  exact ⟨rfl, (by repeat' (first | exact Plus.refl _ | refine Plus.alloc ?_ _ | refine Plus.plus ?_ _ | refine Plus.drew ?_ | refine Plus.drewN ?_ _))⟩
set_option maxRecDepth 100000 in
set_option maxHeartbeats 4000000 in
theorem number_none (A : Option Addr) (xs : List Nat) (n c : Nat) (w : World) (h : Hid (Ar .u16 65536 w A xs n c)) (hs : n ≤ 1048576) (hl : Hid (low xs = true)) (T : List UInt8) (hT : Hid (Lib.trimS (plS xs).data.toList (⟨#[32, 9, 10, 13]⟩ : ByteArray).data.toList = T)) (hz : (plS xs).size ≤ 1048576)
    (hne : Hid (T ≠ [])) (Z : List UInt8) (hZ : Hid (unsT T = Z)) (b : Bool) (hb : Hid (Lib.hasPrefix T [45] = b)) (hi : Hid (Z ≠ infS)) (hzl : Z.length ≤ 1048576) (htl : T.length ≤ 1048576) (hta : Hid (asc T)) (hd : Hid (Z = [] ∨ Z ≠ [] ∧ decide (Lib.trimS Z digS = []) = false))
    (c1 c2 r : Bool) (h1 : Hid (Lib.containsAny T digS = c1)) (h2 : Hid (decide (Lib.trimS T numS = []) = c2)) (hr : Hid (r = !(c1 && c2))) :
    Calls Tryz.prog 96 #[.slice A n c] w fun e w' => e = .returned (.tuple #[.agg #[.int .i64 2, .int .i64 0], .bool r]) ∧ Plus w w' := by
  obtain ⟨t1, t2, t3⟩ := str_ne hne.out
  have hu := unsigned_c T
  rw [hZ.out, hb.out] at hu
  have HU := Lib.hid hu
  have i1 : ((str Z).toList == [73, 110, 102, 105, 110, 105, 116, 121]) = false := by
    rw [str_list]
    have := hi.out
    unfold infS at this
    simpa using this
  have hho : ∀ w : World, Lib.trimS Z digS ≠ [] → Calls Tryz.prog 180 #[.string (str Z), .string ⟨#[48, 49, 50, 51, 52, 53, 54, 55, 56, 57]⟩] w fun e w' => e = .returned (.bool false) ∧ Plus w w' := fun w q => hasOnly_c Z digS w (by omega) (by decide) dig_asc false (Lib.hid (by simpa using q))
  have HH := Lib.hid hho
  have hh2 : ∀ w : World, Calls Tryz.prog 180 #[.string (str T), .string (str numS)] w fun e w' => e = .returned (.bool c2) ∧ Plus w w' := fun w => hasOnly_c T numS w (by omega) (by decide) num_asc c2 h2
  have HN := Lib.hid hh2
  have hca : ∀ w : World, Calls Tryz.prog 111 #[.string (str T), .string ⟨#[48, 49, 50, 51, 52, 53, 54, 55, 56, 57]⟩] w fun e w' => e = .returned (.bool c1) ∧ Plus w w' := fun w => by
    have q := containsAny_c (str T) (str digS) w (by rw [str_size]; omega) (by decide) (asc_get hta.out) (asc_get dig_asc)
    rw [str_data, str_data, h1.out] at q
    exact q
  have HC := Lib.hid hca
  clear hu hho hca hh2
  obtain rfl := hr.out
  rcases hd.out with rfl | ⟨hz0, hd1⟩
  · have z1 : ((str []).toList == []) = true := by rw [str_list]; rfl
    have z2 : (str []).toList.isEmpty = true := by rw [str_list]; rfl
    have z3 : (str []).toList = [] := str_list []
    cases c1
    all_goals
      go_enter Tryz.func96, Tryz.ntmps96
      go_wp2_with (first
        | (go_at_call 105; refine (plain_c _ _ _ _ _ (⟨h.out.rd.plus (by repeat' (first | exact Plus.refl _ | refine Plus.alloc ?_ _ | refine Plus.plus ?_ _ | refine Plus.drew ?_ | refine Plus.drewN ?_ _)), h.out.len, h.out.cap, h.out.max, h.out.bd⟩) (by omega)).mono ?_; rintro e w1 ⟨rfl, ⟨x1, rfl⟩⟩; rw [hl.out])
        | (go_at_call 106; refine (trim_n hT _ (by omega) (by decide) blank_asc).mono ?_; rintro e w1 ⟨rfl, ⟨x2, rfl⟩⟩)
        | (go_at_call 177; refine (HU.out _).mono ?_; rintro e w1 ⟨rfl, rfl⟩)
        | (go_at_call 111; refine (HC.out _).mono ?_; rintro e w1 ⟨rfl, ⟨x3, rfl⟩⟩)
        | (go_at_call 180; refine (HN.out _).mono ?_; rintro e w1 ⟨rfl, ⟨x4, rfl⟩⟩))
      go_returns
      exact ⟨rfl, (by repeat' (first | exact Plus.refl _ | refine Plus.alloc ?_ _ | refine Plus.plus ?_ _ | refine Plus.drew ?_ | refine Plus.drewN ?_ _))⟩
  · obtain ⟨z1, z2, z3⟩ := str_ne hz0
    have hd2 : Lib.trimS Z digS ≠ [] := by simpa using hd1
    have HD2 := Lib.hid hd2
    clear hz0 hd1 hd2
    cases c1
    all_goals
      go_enter Tryz.func96, Tryz.ntmps96
      go_wp2_with (first
        | (go_at_call 105; refine (plain_c _ _ _ _ _ (⟨h.out.rd.plus (by repeat' (first | exact Plus.refl _ | refine Plus.alloc ?_ _ | refine Plus.plus ?_ _ | refine Plus.drew ?_ | refine Plus.drewN ?_ _)), h.out.len, h.out.cap, h.out.max, h.out.bd⟩) (by omega)).mono ?_; rintro e w1 ⟨rfl, ⟨x1, rfl⟩⟩; rw [hl.out])
        | (go_at_call 106; refine (trim_n hT _ (by omega) (by decide) blank_asc).mono ?_; rintro e w1 ⟨rfl, ⟨x2, rfl⟩⟩)
        | (go_at_call 177; refine (HU.out _).mono ?_; rintro e w1 ⟨rfl, rfl⟩)
        | (go_at_call_of 180 (Value.string (str Z)); refine (HH.out _ HD2.out).mono ?_; rintro e w1 ⟨rfl, ⟨x3, rfl⟩⟩)
        | (go_at_call 111; refine (HC.out _).mono ?_; rintro e w1 ⟨rfl, ⟨x3, rfl⟩⟩)
        | (go_at_call_of 180 (Value.string (str T)); refine (HN.out _).mono ?_; rintro e w1 ⟨rfl, ⟨x4, rfl⟩⟩))
      go_returns
      exact ⟨rfl, (by repeat' (first | exact Plus.refl _ | refine Plus.alloc ?_ _ | refine Plus.plus ?_ _ | refine Plus.drew ?_ | refine Plus.drewN ?_ _))⟩
end Go.Proofs.YtakahpbondaidaaGreatDoor

namespace Go.Proofs.YtakahpbondaidaaGreatDoor
open Go.RowKit


theorem nats_U (s : ByteArray) : ∀ x ∈ nats s, x < 65536 := fun x hx => by have := nats_B s x hx; omega
theorem ascii_n (s : ByteArray) (hs : s.size ≤ 140737488355328) (xs : List Nat) (n : Nat) (hx : Hid (nats s = xs ∧ n = xs.length)) (w : World) : Calls Tryz.prog 57 #[.string s] w fun e w' => ∃ (A : Option Addr) (c : Nat), e = .returned (.slice A n c) ∧ Ar .u16 65536 w' A xs n c ∧ Plus w w' := by
  refine (ascii_c s hs w).mono ?_
  rintro e w' ⟨A, c, rfl, q1, q2, q3, q4⟩
  obtain ⟨rfl, rfl⟩ := hx.out
  exact ⟨A, c, rfl, ⟨q3, rfl, q1, q2, nats_U s⟩, q4⟩
end Go.Proofs.YtakahpbondaidaaGreatDoor
