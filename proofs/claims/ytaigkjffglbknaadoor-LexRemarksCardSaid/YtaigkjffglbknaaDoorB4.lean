/- The document's comparison of tokens, where they are the same. -/
import Derived.Test.YtaigkjffglbknaaDoorB1
namespace Go.Proofs.YtaigkjffglbknaaDoor
open Go.RowKit


def LiRel (xs : List Nat) (s5 : Value) : Prop := ∃ k : Nat, k ≤ xs.length ∧ s5 = .int .i64 k
set_option maxRecDepth 100000 in
set_option maxHeartbeats 2000000 in
theorem rlimbs_c (A C : Option Addr) (xs : List Nat) (c d : Nat) (w : World) (ha : Bg.Lim w A xs) (hb : Bg.Lim w C xs) (hc : xs.length ≤ c) (hc2 : c ≤ 9223372036854775807) :
    Calls Tryd.prog 53 #[.slice A xs.length c, .slice C xs.length d] w fun e w' => e = .returned (.bool true) ∧ Plus w w' := by
  have HA := Lib.hid ha
  have HB := Lib.hid hb
  clear ha hb
  go_enter Tryd.func53, Tryd.ntmps53
  go_wp2
  go_loopw [5] (fun s5 wr => LiRel xs s5 ∧ Plus w wr) (fun s5 _ => ((xs.length : Int) - intOf s5).toNat)
  case atStart => exact ⟨⟨0, by omega, rfl⟩, Plus.refl _⟩
  case round =>
    obtain ⟨⟨k, hk, rfl⟩, hp⟩ := hrel
    have HP := Lib.hid hp
    by_cases hlt : k < xs.length
    · obtain ⟨a1, rfl, h1⟩ := (HA.out.below hp.below).at_ hlt
      obtain ⟨a2, rfl, h2⟩ := (HB.out.below hp.below).at_ hlt
      obtain ⟨v, hv⟩ : ∃ v, Bg.lim xs k = v := ⟨_, rfl⟩
      rw [hv] at h1 h2
      have HV := Lib.hid hv
      clear hv hp
      go_wp2_with fail
      go_quiet (fail)
      go_wp2_with fail
      go_roundw
      case rel => exact ⟨⟨k + 1, hlt, by rw [show ((k + 1 : Nat) : Int) = (k : Int) + 1 by omega]⟩, HP.out.drewN _⟩
      case measure => simp [intOf]; omega
    · obtain rfl : k = xs.length := by omega
      clear hp
      go_wp2_with fail
      go_ret
      exact ⟨rfl, HP.out⟩
set_option maxHeartbeats 2000000 in
theorem rnum_c (k n : Int) (w : World) : Calls Tryd.prog 33 #[.agg #[.int .i64 k, .int .i64 n], .agg #[.int .i64 k, .int .i64 n]] w fun e w' => e = .returned (.bool true) ∧ Plus w w' := by
  go_enter Tryd.func33, Tryd.ntmps33
  go_wp2
  go_ret
  exact ⟨rfl, (by repeat' (first | exact Plus.refl _ | refine Plus.alloc ?_ _ | refine Plus.plus ?_ _ | refine Plus.drew ?_ | refine Plus.drewN ?_ _))⟩
set_option maxHeartbeats 4000000 in
theorem rbig_c (b : Bool) (A C : Option Addr) (xs : List Nat) (c d : Nat) (w : World) (ha : Bg.Lim w A xs) (hb : Bg.Lim w C xs) (hc : xs.length ≤ c) (hc2 : c ≤ 9223372036854775807) :
    Calls Tryd.prog 34 #[.agg #[.bool b, .slice A xs.length c], .agg #[.bool b, .slice C xs.length d]] w fun e w' => e = .returned (.bool true) ∧ Plus w w' := by
  have HA := Lib.hid ha
  have HB := Lib.hid hb
  clear ha hb
  go_enter Tryd.func34, Tryd.ntmps34
  go_wp2_with (go_at_call 53; (with_reducible refine (rlimbs_c _ _ xs _ _ _ (HA.out.below (Plus.below (by repeat' (first | exact Plus.refl _ | refine Plus.alloc ?_ _ | refine Plus.plus ?_ _ | refine Plus.drew ?_ | refine Plus.drewN ?_ _)))) (HB.out.below (Plus.below (by repeat' (first | exact Plus.refl _ | refine Plus.alloc ?_ _ | refine Plus.plus ?_ _ | refine Plus.drew ?_ | refine Plus.drewN ?_ _)))) hc hc2).mono ?_); rintro e w1 ⟨rfl, ⟨x1, rfl⟩⟩)
  all_goals go_ret
  all_goals exact ⟨rfl, (by repeat' (first | exact Plus.refl _ | refine Plus.alloc ?_ _ | refine Plus.plus ?_ _ | refine Plus.drew ?_ | refine Plus.drewN ?_ _))⟩
set_option maxRecDepth 100000 in
set_option maxHeartbeats 8000000 in
theorem rtok_c (t : Tk) (As Cs : Option Addr) (cs ds : Nat) (Am Cm : Option Addr) (cm dm : Nat) (w : World) (h1 : TkM w t.s t.b As cs Am cm) (h2 : TkM w t.s t.b Cs ds Cm dm) :
    Calls Tryd.prog 21 #[.agg #[.int .i64 t.k, .string t.t, .slice As t.s.length cs, .int .i64 t.nk, .int .i64 t.n, .bool (decide (t.b < 0)), .slice Am (Bg.dig t.b.natAbs).length cm, .int .i64 t.a, .bool t.nl], .agg #[.int .i64 t.k, .string t.t, .slice Cs t.s.length ds, .int .i64 t.nk, .int .i64 t.n, .bool (decide (t.b < 0)), .slice Cm (Bg.dig t.b.natAbs).length dm, .int .i64 t.a, .bool t.nl]] w fun e w' => e = .returned (.bool true) ∧ Plus w w' := by
  have H1 := Lib.hid h1
  have H2 := Lib.hid h2
  have hc1 := h1.cap
  have hc2 := h1.max
  clear h1 h2
  go_enter Tryd.func21, Tryd.ntmps21
  go_wp2_with (first
    | (go_at_call 19; (with_reducible refine (runits_c _ _ t.s t.s _ _ _ _ _ (H1.out.str.plus (by repeat' (first | exact Plus.refl _ | refine Plus.alloc ?_ _ | refine Plus.plus ?_ _ | refine Plus.drew ?_ | refine Plus.drewN ?_ _))) (H2.out.str.plus (by repeat' (first | exact Plus.refl _ | refine Plus.alloc ?_ _ | refine Plus.plus ?_ _ | refine Plus.drew ?_ | refine Plus.drewN ?_ _)))).mono ?_); rintro e w1 ⟨rfl, ⟨x1, rfl⟩⟩; rw [decide_eq_true (rfl : t.s = t.s)])
    | (go_at_call 33; (with_reducible refine (rnum_c _ _ _).mono ?_); rintro e w1 ⟨rfl, ⟨x2, rfl⟩⟩)
    | (go_at_call 34; (with_reducible refine (rbig_c _ _ _ _ _ _ _ (H1.out.big.below (Plus.below (by repeat' (first | exact Plus.refl _ | refine Plus.alloc ?_ _ | refine Plus.plus ?_ _ | refine Plus.drew ?_ | refine Plus.drewN ?_ _)))) (H2.out.big.below (Plus.below (by repeat' (first | exact Plus.refl _ | refine Plus.alloc ?_ _ | refine Plus.plus ?_ _ | refine Plus.drew ?_ | refine Plus.drewN ?_ _)))) hc1 hc2).mono ?_); rintro e w1 ⟨rfl, ⟨x3, rfl⟩⟩))
  go_ret
  exact ⟨rfl, (by repeat' (first | exact Plus.refl _ | refine Plus.alloc ?_ _ | refine Plus.plus ?_ _ | refine Plus.drew ?_ | refine Plus.drewN ?_ _))⟩
set_option maxRecDepth 100000 in
set_option maxHeartbeats 8000000 in
theorem rtok_z (k nk n b z : Int) (tt : ByteArray) (s : List Nat) (bn nl : Bool) (As Cs : Option Addr) (cs ds : Nat) (Am Cm : Option Addr) (cm dm : Nat) (w : World) (h1 : TkM w s b As cs Am cm) (h2 : TkM w s b Cs ds Cm dm) :
    Calls Tryd.prog 21 #[.agg #[.int .i64 k, .string tt, .slice As s.length cs, .int .i64 nk, .int .i64 n, .bool bn, .slice Am (Bg.dig b.natAbs).length cm, .int .i64 z, .bool nl], .agg #[.int .i64 k, .string tt, .slice Cs s.length ds, .int .i64 nk, .int .i64 n, .bool bn, .slice Cm (Bg.dig b.natAbs).length dm, .int .i64 z, .bool nl]] w fun e w' => e = .returned (.bool true) ∧ Plus w w' := by
  have H1 := Lib.hid h1
  have H2 := Lib.hid h2
  have hc1 := h1.cap
  have hc2 := h1.max
  clear h1 h2
  go_enter Tryd.func21, Tryd.ntmps21
  go_wp2_with (first
    | (go_at_call 19; (with_reducible refine (runits_c _ _ s s _ _ _ _ _ (H1.out.str.plus (by repeat' (first | exact Plus.refl _ | refine Plus.alloc ?_ _ | refine Plus.plus ?_ _ | refine Plus.drew ?_ | refine Plus.drewN ?_ _))) (H2.out.str.plus (by repeat' (first | exact Plus.refl _ | refine Plus.alloc ?_ _ | refine Plus.plus ?_ _ | refine Plus.drew ?_ | refine Plus.drewN ?_ _)))).mono ?_); rintro e w1 ⟨rfl, ⟨x1, rfl⟩⟩; rw [decide_eq_true (rfl : s = s)])
    | (go_at_call 33; (with_reducible refine (rnum_c _ _ _).mono ?_); rintro e w1 ⟨rfl, ⟨x2, rfl⟩⟩)
    | (go_at_call 34; (with_reducible refine (rbig_c _ _ _ _ _ _ _ (H1.out.big.below (Plus.below (by repeat' (first | exact Plus.refl _ | refine Plus.alloc ?_ _ | refine Plus.plus ?_ _ | refine Plus.drew ?_ | refine Plus.drewN ?_ _)))) (H2.out.big.below (Plus.below (by repeat' (first | exact Plus.refl _ | refine Plus.alloc ?_ _ | refine Plus.plus ?_ _ | refine Plus.drew ?_ | refine Plus.drewN ?_ _)))) hc1 hc2).mono ?_); rintro e w1 ⟨rfl, ⟨x3, rfl⟩⟩))
  all_goals go_ret
  all_goals exact ⟨rfl, (by repeat' (first | exact Plus.refl _ | refine Plus.alloc ?_ _ | refine Plus.plus ?_ _ | refine Plus.drew ?_ | refine Plus.drewN ?_ _))⟩
end Go.Proofs.YtaigkjffglbknaaDoor
