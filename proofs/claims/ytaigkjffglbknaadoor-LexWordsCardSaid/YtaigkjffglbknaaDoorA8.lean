/- Contracts: an error, a sign, a word, a BigInt. -/
import Derived.Test.YtaigkjffglbknaaDoorA7
namespace Go.Proofs.YtaigkjffglbknaaDoor
open Go.RowKit


/-- A token as a value. -/
def tkV (t : Tk) (As : Option Addr) (cs : Nat) (Am : Option Addr) (cm : Nat) : Value :=
  .agg #[.int .i64 t.k, .string t.t, .slice As t.s.length cs, .int .i64 t.nk, .int .i64 t.n, .bool (decide (t.b < 0)), .slice Am (Bg.dig t.b.natAbs).length cm, .int .i64 t.a, .bool t.nl]
/-- What it refers to, in memory. -/
structure TkM (w : World) (s : List Nat) (b : Int) (As : Option Addr) (cs : Nat) (Am : Option Addr) (cm : Nat) : Prop where
  str : Ar .u16 65536 w As s s.length cs
  big : Bg.Lim w Am (Bg.dig b.natAbs)
  cap : (Bg.dig b.natAbs).length ≤ cm
  max : cm ≤ 9223372036854775807
  tyS : Bg.Ty w As s.length 40
  tyB : Bg.Ty w Am (Bg.dig b.natAbs).length 76
theorem ty_plus {w w' : World} {A : Option Addr} {n : Nat} {e : TypeId} (h : Bg.Ty w A n e) (hp : Plus w w') : Bg.Ty w' A n e := fun h0 a ha => by
  obtain ⟨cur, z, hh⟩ := h h0 a ha
  exact ⟨cur, z, (hp.below.block _ (Array.getElem?_eq_some_iff.1 hh).1).trans hh⟩
theorem ty_none {w : World} {n : Nat} {e : TypeId} : Bg.Ty w none n e := fun _ a h => by cases h
theorem TkM.plus {w w' : World} {s : List Nat} {b : Int} {As : Option Addr} {cs : Nat} {Am : Option Addr} {cm : Nat} (h : TkM w s b As cs Am cm) (hp : Plus w w') : TkM w' s b As cs Am cm :=
  ⟨h.str.plus hp, h.big.below hp.below, h.cap, h.max, ty_plus h.tyS hp, ty_plus h.tyB hp⟩
theorem dig0 : Bg.dig (0 : Int).natAbs = [] := Bg.dig_zero
theorem ar_nil (w : World) : Ar .u16 65536 w none [] 0 0 := ⟨Rd.nil, rfl, Nat.le_refl _, by decide, fun x hx => by simp at hx⟩
theorem lim_nil (w : World) : Bg.Lim w none (Bg.dig (0 : Int).natAbs) := by rw [dig0]; exact Bg.Lim.nil
theorem TkM.zero (w : World) : TkM w [] 0 none 0 none 0 := ⟨ar_nil w, lim_nil w, by rw [dig0]; exact Nat.le_refl _, by decide, ty_none, ty_none⟩
def RetTok (r : Rt) (w : World) (e : Ending) (w' : World) : Prop :=
  ∃ (As : Option Addr) (cs : Nat) (Am : Option Addr) (cm : Nat), e = .returned (.tuple #[tkV r.t As cs Am cm, .int .i64 r.n, .int .i64 r.e]) ∧ TkM w' r.t.s r.t.b As cs Am cm ∧ Plus w w'
theorem RetTok.er {er : Nat} {w w' : World} (hp : Plus w w') : RetTok (flt er) w (.returned (.tuple #[.agg #[.int .i64 0, .string ⟨#[]⟩, .slice none 0 0, .int .i64 0, .int .i64 0, .bool false, .slice none 0 0, .int .i64 0, .bool false], .int .i64 0, .int .i64 er])) w' := by
  refine ⟨none, 0, none, 0, ?_, TkM.zero _, hp⟩
  unfold tkV flt tk0
  rw [dig0]
  rfl
theorem RetTok.txt {k : Int} {s : ByteArray} {n : Nat} {w w' : World} (hp : Plus w w') : RetTok ⟨{ tk0 with k := k, t := s }, n, 0⟩ w (.returned (.tuple #[.agg #[.int .i64 k, .string s, .slice none 0 0, .int .i64 0, .int .i64 0, .bool false, .slice none 0 0, .int .i64 0, .bool false], .int .i64 n, .int .i64 0])) w' := by
  refine ⟨none, 0, none, 0, ?_, TkM.zero _, hp⟩
  unfold tkV tk0
  simp only [dig0]
  rfl
theorem RetTok.num {nk m : Int} {n : Nat} {w w' : World} (hp : Plus w w') : RetTok ⟨{ tk0 with k := 2, nk := nk, n := m }, n, 0⟩ w (.returned (.tuple #[.agg #[.int .i64 2, .string ⟨#[]⟩, .slice none 0 0, .int .i64 nk, .int .i64 m, .bool false, .slice none 0 0, .int .i64 0, .bool false], .int .i64 n, .int .i64 0])) w' := by
  refine ⟨none, 0, none, 0, ?_, TkM.zero _, hp⟩
  unfold tkV tk0
  simp only [dig0]
  rfl
theorem RetTok.big {b : Int} {n cm : Nat} {Am : Option Addr} {w w' : World} (hL : Bg.Lim w' Am (Bg.dig b.natAbs)) (h1 : (Bg.dig b.natAbs).length ≤ cm) (h2 : cm ≤ 9223372036854775807) (hT : Bg.Ty w' Am (Bg.dig b.natAbs).length 76) (hp : Plus w w') :
    RetTok ⟨{ tk0 with k := 3, b := b }, n, 0⟩ w (.returned (.tuple #[.agg #[.int .i64 3, .string ⟨#[]⟩, .slice none 0 0, .int .i64 0, .int .i64 0, .bool (decide (b < 0)), .slice Am (Bg.dig b.natAbs).length cm, .int .i64 0, .bool false], .int .i64 n, .int .i64 0])) w' :=
  ⟨none, 0, Am, cm, rfl, ⟨ar_nil _, hL, h1, h2, ty_none, hT⟩, hp⟩
theorem RetTok.str {s : List Nat} {n cs : Nat} {As : Option Addr} {w w' : World} (hA : Ar .u16 65536 w' As s s.length cs) (hT : Bg.Ty w' As s.length 40) (hp : Plus w w') :
    RetTok ⟨{ tk0 with k := 4, s := s }, n, 0⟩ w (.returned (.tuple #[.agg #[.int .i64 4, .string ⟨#[]⟩, .slice As s.length cs, .int .i64 0, .int .i64 0, .bool false, .slice none 0 0, .int .i64 0, .bool false], .int .i64 n, .int .i64 0])) w' := by
  refine ⟨As, cs, none, 0, ?_, ⟨hA, lim_nil _, by simp only [tk0]; rw [dig0]; exact Nat.le_refl _, by decide, hT, ty_none⟩, hp⟩
  unfold tkV tk0
  simp only [dig0]
  rfl
set_option maxRecDepth 100000 in
theorem fault_c (er : Int) (w : World) : Calls Tryd.prog 50 #[.int .i64 er] w fun e w' => e = .returned (.tuple #[.agg #[.int .i64 0, .string ⟨#[]⟩, .slice none 0 0, .int .i64 0, .int .i64 0, .bool false, .slice none 0 0, .int .i64 0, .bool false], .int .i64 0, .int .i64 er]) ∧ Plus w w' := by
  go_enter Tryd.func50, Tryd.ntmps50
  go_wp2
  go_returns
  exact ⟨rfl, (Plus.refl _).alloc _⟩
set_option maxRecDepth 100000 in
set_option maxHeartbeats 2000000 in
theorem sgn_c (s : ByteArray) (w : World) : Calls Tryd.prog 52 #[.string s] w (RetTok (sgnM s) w) := by
  obtain ⟨v, hv⟩ : ∃ v, signN s.data.toList = v := ⟨_, rfl⟩
  have HV := Lib.hid hv
  by_cases h2 : v = 2
  · have HM : Hid (sgnM s = flt 6) := Lib.hid (by unfold sgnM; rw [hv, if_pos h2])
    have b2 : ((v : Int) == 2) = true := by simp; omega
    clear hv h2
    go_enter Tryd.func52, Tryd.ntmps52
    go_wp2_with (first | (go_at_call 14; (with_reducible refine (sign_c s _).mono ?_); rintro e w1 ⟨rfl, rfl⟩; rw [HV.out]) | (go_at_call 50; (with_reducible refine (fault_c _ _).mono ?_); rintro e w1 ⟨rfl, ⟨x1, rfl⟩⟩))
    go_returns
    rw [HM.out]
    exact RetTok.er (by repeat' (first | exact Plus.refl _ | refine Plus.alloc ?_ _ | refine Plus.plus ?_ _ | refine Plus.drew ?_ | refine Plus.drewN ?_ _))
  · have HM : Hid (sgnM s = ⟨{ tk0 with k := 5, t := s }, s.size, 0⟩) := Lib.hid (by unfold sgnM; rw [hv, if_neg h2])
    have b2 : ((v : Int) == 2) = false := by simp; omega
    clear hv h2
    go_enter Tryd.func52, Tryd.ntmps52
    go_wp2_with (first | (go_at_call 14; (with_reducible refine (sign_c s _).mono ?_); rintro e w1 ⟨rfl, rfl⟩; rw [HV.out]) | (go_at_call 50; (with_reducible refine (fault_c _ _).mono ?_); rintro e w1 ⟨rfl, ⟨x1, rfl⟩⟩))
    go_returns
    rw [HM.out]
    exact RetTok.txt (by repeat' (first | exact Plus.refl _ | refine Plus.alloc ?_ _ | refine Plus.plus ?_ _ | refine Plus.drew ?_ | refine Plus.drewN ?_ _))
set_option maxRecDepth 100000 in
set_option maxHeartbeats 4000000 in
theorem wrd_c (A : Option Addr) (xs : List Nat) (n c : Nat) (w : World) (h : Ar .u16 65536 w A xs n c) (hn : n ≤ 140737488355328) : Calls Tryd.prog 45 #[.slice A n c] w (RetTok (wrdM xs) w) := by
  have H := Lib.hid h
  have hl := h.len
  have hcap := h.cap
  have hmax := h.max
  obtain ⟨S, hS⟩ : ∃ S, spanL isPrt xs = S := ⟨_, rfl⟩
  have hs1 : S ≤ n := by rw [hl, ← hS]; exact span_le _ _
  have HS := Lib.hid hS
  obtain ⟨v, hv⟩ : ∃ v, uAt xs S = v := ⟨_, rfl⟩
  have HV := Lib.hid hv
  have HW : Hid (wrdM xs = if v = 92 then flt 6 else ⟨{ tk0 with k := if wordN (plS (xs.take S)).data.toList = 0 then 1 else 6, t := plS (xs.take S) }, S, 0⟩) := Lib.hid (by unfold wrdM; rw [hS, hv])
  clear h hl hS hv
  by_cases h2 : v = 92
  · have HM : Hid (wrdM xs = flt 6) := Lib.hid (by rw [HW.out, if_pos h2])
    have b2 : ((v : Int) == 92) = true := by simp; omega
    clear h2 HW
    go_enter Tryd.func45, Tryd.ntmps45
    go_wp2_with (first | (go_at_call 42; (with_reducible refine (span_part _ _ _ _ _ (H.out.plus (by repeat' (first | exact Plus.refl _ | refine Plus.alloc ?_ _ | refine Plus.plus ?_ _ | refine Plus.drew ?_ | refine Plus.drewN ?_ _)))).mono ?_); rintro e w1 ⟨rfl, rfl⟩; rw [HS.out]) | (go_at_call 49; (with_reducible refine (unitAt_c _ _ _ _ S _ (H.out.plus (by repeat' (first | exact Plus.refl _ | refine Plus.alloc ?_ _ | refine Plus.plus ?_ _ | refine Plus.drew ?_ | refine Plus.drewN ?_ _))) (by omega)).mono ?_); rintro e w1 ⟨rfl, rfl⟩; rw [HV.out]) | (go_at_call 50; (with_reducible refine (fault_c _ _).mono ?_); rintro e w1 ⟨rfl, ⟨x1, rfl⟩⟩))
    go_returns
    rw [HM.out]
    exact RetTok.er (by repeat' (first | exact Plus.refl _ | refine Plus.alloc ?_ _ | refine Plus.plus ?_ _ | refine Plus.drew ?_ | refine Plus.drewN ?_ _))
  · have b2 : ((v : Int) == 92) = false := by simp; omega
    obtain ⟨k, hk⟩ : ∃ k, wordN (plS (xs.take S)).data.toList = k := ⟨_, rfl⟩
    have HK := Lib.hid hk
    have HM : Hid (wrdM xs = ⟨{ tk0 with k := if k = 0 then 1 else 6, t := plS (xs.take S) }, S, 0⟩) := Lib.hid (by rw [HW.out, if_neg h2, hk])
    clear h2 HW hk
    by_cases k0 : k = 0
    · subst k0
      go_enter Tryd.func45, Tryd.ntmps45
      go_wp2_with (first | (go_at_call 42; (with_reducible refine (span_part _ _ _ _ _ (H.out.plus (by repeat' (first | exact Plus.refl _ | refine Plus.alloc ?_ _ | refine Plus.plus ?_ _ | refine Plus.drew ?_ | refine Plus.drewN ?_ _)))).mono ?_); rintro e w1 ⟨rfl, rfl⟩; rw [HS.out]) | (go_at_call 49; (with_reducible refine (unitAt_c _ _ _ _ S _ (H.out.plus (by repeat' (first | exact Plus.refl _ | refine Plus.alloc ?_ _ | refine Plus.plus ?_ _ | refine Plus.drew ?_ | refine Plus.drewN ?_ _))) (by omega)).mono ?_); rintro e w1 ⟨rfl, rfl⟩; rw [HV.out]) | (go_at_call 56; (with_reducible refine (plain_c _ (xs.take S) _ _ _ ((H.out.tk hs1).plus (by repeat' (first | exact Plus.refl _ | refine Plus.alloc ?_ _ | refine Plus.plus ?_ _ | refine Plus.drew ?_ | refine Plus.drewN ?_ _))) (by omega)).mono ?_); rintro e w1 ⟨rfl, ⟨x2, rfl⟩⟩) | (go_at_call 12; (with_reducible refine (word_c _ _).mono ?_); rintro e w1 ⟨rfl, rfl⟩; rw [HK.out]))
      go_returns
      rw [HM.out]
      exact RetTok.txt (by repeat' (first | exact Plus.refl _ | refine Plus.alloc ?_ _ | refine Plus.plus ?_ _ | refine Plus.drew ?_ | refine Plus.drewN ?_ _))
    · have b3 : ((k : Int) == 0) = false := by simp; omega
      have b4 : ((k : Int) != 0) = true := by simp; omega
      have HK0 := Lib.hid k0
      clear k0
      go_enter Tryd.func45, Tryd.ntmps45
      go_wp2_with (first | (go_at_call 42; (with_reducible refine (span_part _ _ _ _ _ (H.out.plus (by repeat' (first | exact Plus.refl _ | refine Plus.alloc ?_ _ | refine Plus.plus ?_ _ | refine Plus.drew ?_ | refine Plus.drewN ?_ _)))).mono ?_); rintro e w1 ⟨rfl, rfl⟩; rw [HS.out]) | (go_at_call 49; (with_reducible refine (unitAt_c _ _ _ _ S _ (H.out.plus (by repeat' (first | exact Plus.refl _ | refine Plus.alloc ?_ _ | refine Plus.plus ?_ _ | refine Plus.drew ?_ | refine Plus.drewN ?_ _))) (by omega)).mono ?_); rintro e w1 ⟨rfl, rfl⟩; rw [HV.out]) | (go_at_call 56; (with_reducible refine (plain_c _ (xs.take S) _ _ _ ((H.out.tk hs1).plus (by repeat' (first | exact Plus.refl _ | refine Plus.alloc ?_ _ | refine Plus.plus ?_ _ | refine Plus.drew ?_ | refine Plus.drewN ?_ _))) (by omega)).mono ?_); rintro e w1 ⟨rfl, ⟨x2, rfl⟩⟩) | (go_at_call 12; (with_reducible refine (word_c _ _).mono ?_); rintro e w1 ⟨rfl, rfl⟩; rw [HK.out]))
      go_returns
      rw [HM.out, if_neg HK0.out]
      exact RetTok.txt (by repeat' (first | exact Plus.refl _ | refine Plus.alloc ?_ _ | refine Plus.plus ?_ _ | refine Plus.drew ?_ | refine Plus.drewN ?_ _))
end Go.Proofs.YtaigkjffglbknaaDoor
