/- LexJoins: all ways. -/
import Derived.Test.YtaigkjffglbknaaDoorL6x
namespace Go.Proofs.YtaigkjffglbknaaDoor
open Go.RowKit


set_option maxRecDepth 100000 in
set_option maxHeartbeats 4000000 in
theorem joins_fn (A1 A2 : Option Addr) (n c m d : Nat) (w : World) (HL : Hid (Lai w)) (dn : decide ((2000 : Int) < (n : Int)) = true) : Calls Tryd.prog 6 #[.slice A1 n c, .slice A2 m d] w fun e w' => e = .returned (.bool true) ∧ Plus w w' := by
  go_enter Tryd.func6, Tryd.ntmps6
  go_wp2_with (go_at_call 11; (with_reducible refine (first_c _ (Lib.hid (HL.out.plus (by repeat' (first | exact Plus.refl _ | refine Plus.alloc ?_ _ | refine Plus.plus ?_ _ | refine Plus.drew ?_ | refine Plus.drewN ?_ _))))).mono ?_); rintro e w1 ⟨rfl, ⟨y0, rfl⟩⟩)
  go_ret
  exact ⟨rfl, (by repeat' (first | exact Plus.refl _ | refine Plus.alloc ?_ _ | refine Plus.plus ?_ _ | refine Plus.drew ?_ | refine Plus.drewN ?_ _))⟩
set_option maxRecDepth 100000 in
set_option maxHeartbeats 4000000 in
theorem joins_fm (A1 A2 : Option Addr) (n c m d : Nat) (w : World) (HL : Hid (Lai w)) (dn : decide ((2000 : Int) < (n : Int)) = false) (dm : decide ((2000 : Int) < (m : Int)) = true) : Calls Tryd.prog 6 #[.slice A1 n c, .slice A2 m d] w fun e w' => e = .returned (.bool true) ∧ Plus w w' := by
  go_enter Tryd.func6, Tryd.ntmps6
  go_wp2_with (go_at_call 11; (with_reducible refine (first_c _ (Lib.hid (HL.out.plus (by repeat' (first | exact Plus.refl _ | refine Plus.alloc ?_ _ | refine Plus.plus ?_ _ | refine Plus.drew ?_ | refine Plus.drewN ?_ _))))).mono ?_); rintro e w1 ⟨rfl, ⟨y0, rfl⟩⟩)
  go_ret
  exact ⟨rfl, (by repeat' (first | exact Plus.refl _ | refine Plus.alloc ?_ _ | refine Plus.plus ?_ _ | refine Plus.drew ?_ | refine Plus.drewN ?_ _))⟩
set_option maxRecDepth 100000 in
set_option maxHeartbeats 4000000 in
theorem joins_f35 (A1 : Option Addr) (g o v n c m d : Nat) (w : World) (HL : Hid (Lai w)) (dn : decide ((2000 : Int) < (n : Int)) = false) (dm : decide ((2000 : Int) < (m : Int)) = false) (h0m : 0 < m) (I0 : Old g w) (hv0 : w.cell? ⟨g, o, none⟩ = some (.int .u16 (v : Nat))) (h35 : ((v : Int) == 35) = true) : Calls Tryd.prog 6 #[.slice A1 n c, .slice (some ⟨g, o, none⟩) m d] w fun e w' => e = .returned (.bool true) ∧ Plus w w' := by
  go_enter Tryd.func6, Tryd.ntmps6
  go_wp2_with (go_at_call 11; (with_reducible refine (first_c _ (Lib.hid (HL.out.plus (by repeat' (first | exact Plus.refl _ | refine Plus.alloc ?_ _ | refine Plus.plus ?_ _ | refine Plus.drew ?_ | refine Plus.drewN ?_ _))))).mono ?_); rintro e w1 ⟨rfl, ⟨y0, rfl⟩⟩)
  go_ret
  exact ⟨rfl, (by repeat' (first | exact Plus.refl _ | refine Plus.alloc ?_ _ | refine Plus.plus ?_ _ | refine Plus.drew ?_ | refine Plus.drewN ?_ _))⟩
theorem bd_of (xs : List Nat) (h : xs.length ≤ 2000) : (∀ t ∈ (tokM xs).l, t.a ≤ xs.length) ∧ (tokM xs).a ≤ xs.length ∧ (tokM xs).l.length ≤ xs.length + 1 ∧ ((tokM xs).e = 0 → (tokM xs).a = 0 ∧ 0 < (tokM xs).l.length) ∧ ((tokM xs).e ≠ 0 → (tokM xs).l = []) := by
  have e1 : tokM xs = runM xs 0 false [] xs.length := by unfold tokM; rw [if_neg (by omega)]
  obtain ⟨b1, b2, b3⟩ := run_bd xs xs.length 0 false [] (Nat.zero_le _) (fun t ht => by simp at ht)
  rw [e1]
  exact ⟨b1, b2, by simpa using b3, fun h => ⟨run_ok _ _ _ _ _ h, run_ne _ _ _ _ _ h⟩, run_no _ _ _ _ _⟩
def JnWay (xs ys : List Nat) : Prop :=
  (∃ a er : Nat, er ≠ 0 ∧ a ≤ xs.length ∧ tokM xs = ⟨[], a, er⟩) ∨
  (∃ (L : List Tk) (b er : Nat), er ≠ 0 ∧ b ≤ 5000 ∧ tokM xs = ⟨L, 0, 0⟩ ∧ tokM ys = ⟨[], b, er⟩ ∧ tokM (xs ++ 10 :: ys) = ⟨[], b + (xs.length + 1), er⟩) ∨
  (∃ (acc : List Tk) (E : Tk) (L : List Tk), 0 < L.length ∧ L.length ≤ 5000 ∧ acc.length ≤ 5000 ∧ (∀ T ∈ L, T.a ≤ 5000) ∧ tokM xs = ⟨acc ++ [E], 0, 0⟩ ∧ tokM ys = ⟨L, 0, 0⟩ ∧ tokM (xs ++ 10 :: ys) = ⟨acc ++ (nl1 L).map (mv (xs.length + 1)), 0, 0⟩)
theorem jn_way (xs ys : List Nat) (hx : xs.length ≤ 2000) (hy : ys.length ≤ 2000) (h35 : uAt ys 0 ≠ 35) : JnWay xs ys := by
  obtain ⟨x1, x2, x3, x4, x5⟩ := bd_of xs hx
  obtain ⟨y1, y2, y3, y4, y5⟩ := bd_of ys hy
  by_cases hu : (tokM xs).e = 0
  · obtain ⟨acc, nl, e1, e2⟩ := tok_join xs ys hu (by omega) h35
    right
    by_cases hv : (tokM ys).e = 0
    · right
      obtain ⟨q1, q2⟩ := y4 hv
      refine ⟨acc, _, (tokM ys).l, q2, by omega, ?_, fun T hT => by have := y1 T hT; omega, e1, ?_, ?_⟩
      · rw [e1] at x3
        simp only [List.length_append, List.length_cons, List.length_nil] at x3
        omega
      · generalize tokM ys = r at hv q1
        obtain ⟨l, a, e⟩ := r
        dsimp only at hv q1
        rw [hv, q1]
      · rw [e2]
        unfold nlR
        rw [if_pos hv]
        rfl
    · left
      refine ⟨_, (tokM ys).a, (tokM ys).e, hv, by omega, e1, ?_, ?_⟩
      · have := y5 hv
        generalize tokM ys = r at this
        obtain ⟨l, a, e⟩ := r
        dsimp only at this
        rw [this]
      · rw [e2]
        unfold nlR
        rw [if_neg hv, mvR_no hv, behind_no _ hv]
  · left
    refine ⟨(tokM xs).a, (tokM xs).e, hu, x2, ?_⟩
    have := x5 hu
    generalize tokM xs = r at this
    obtain ⟨l, a, e⟩ := r
    dsimp only at this
    rw [this]
theorem joins_go (A1 A2 : Option Addr) (xs ys : List Nat) (n c m d : Nat) (w : World) (hL : Lai w) (h1 : Ar .u16 65536 w A1 xs n c) (h2 : Ar .u16 65536 w A2 ys m d) : Calls Tryd.prog 6 #[.slice A1 n c, .slice A2 m d] w fun e w' => e = .returned (.bool true) ∧ Plus w w' := by
  have HL := Lib.hid hL
  have ha := Lib.hid h1
  have hb := Lib.hid h2
  have l1 := h1.len
  have l2 := h2.len
  by_cases hn : n ≤ 2000
  · have dn : decide ((2000 : Int) < (n : Int)) = false := by simp; omega
    by_cases hm : m ≤ 2000
    · have dm : decide ((2000 : Int) < (m : Int)) = false := by simp; omega
      by_cases h0 : m = 0
      · have hy : uAt ys 0 ≠ 35 := by
          have : ys = [] := List.eq_nil_of_length_eq_zero (by omega)
          subst this
          decide
        rcases jn_way xs ys (by omega) (by omega) hy with ⟨a, er, q1, q2, T1⟩ | ⟨L, b, er, q1, q2, T1, T2, T3⟩ | ⟨acc, E, L, q1, q2, q3, q4, T1, T2, T3⟩
        · exact joins_euz A1 A2 xs ys n c m d w HL ha hb hn hm dn dm h0 a er _ (Lib.hid rfl) (by simp; omega) (by simp; omega) (Lib.hid T1)
        · exact joins_evz A1 A2 xs ys n c m d w HL ha hb hn hm dn dm h0 L b _ er _ _ _ (Lib.hid rfl) (Lib.hid rfl) (Lib.hid rfl) (by omega) (by omega) (by simp; omega) (by simp; omega) (Lib.hid T1) (Lib.hid T2) (Lib.hid T3)
        · exact joins_okz A1 A2 xs ys n c m d w HL ha hb hn hm dn dm h0 acc E L q1 q2 q3 q4 (Lib.hid T1) (Lib.hid T2) (Lib.hid T3)
      · have h0m : 0 < m := by omega
        obtain ⟨g, o, hA, hg, hat⟩ := h2.rd.at_ (j := 0) (by omega)
        have I0 : Old g w := ⟨hg⟩
        have hv0 : w.cell? ⟨g, o, none⟩ = some (.int .u16 (uAt ys 0 : Nat)) := hat 0 (by omega)
        by_cases h35 : uAt ys 0 = 35
        · subst hA
          exact joins_f35 A1 g o (uAt ys 0) n c m d w HL dn dm h0m I0 hv0 (by simp; omega)
        · rcases jn_way xs ys (by omega) (by omega) h35 with ⟨a, er, q1, q2, T1⟩ | ⟨L, b, er, q1, q2, T1, T2, T3⟩ | ⟨acc, E, L, q1, q2, q3, q4, T1, T2, T3⟩
          · exact joins_eup A1 A2 xs ys n c m d w HL ha hb hn hm dn dm g o _ h0m hA I0 hv0 (by simp; omega) a er _ (Lib.hid rfl) (by simp; omega) (by simp; omega) (Lib.hid T1)
          · exact joins_evp A1 A2 xs ys n c m d w HL ha hb hn hm dn dm g o _ h0m hA I0 hv0 (by simp; omega) L b _ er _ _ _ (Lib.hid rfl) (Lib.hid rfl) (Lib.hid rfl) (by omega) (by omega) (by simp; omega) (by simp; omega) (Lib.hid T1) (Lib.hid T2) (Lib.hid T3)
          · exact joins_okp A1 A2 xs ys n c m d w HL ha hb hn hm dn dm g o _ h0m hA I0 hv0 (by simp; omega) acc E L q1 q2 q3 q4 (Lib.hid T1) (Lib.hid T2) (Lib.hid T3)
    · exact joins_fm A1 A2 n c m d w HL dn (by simp; omega)
  · exact joins_fn A1 A2 n c m d w HL (by simp; omega)
end Go.Proofs.YtaigkjffglbknaaDoor
