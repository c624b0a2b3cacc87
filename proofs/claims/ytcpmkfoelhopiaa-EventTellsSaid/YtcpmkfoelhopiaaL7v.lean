/- Walk of EventTells. -/
import Derived.WalkKit
import Derived.WalkSpells
import Derived.WalkLawsBesides
import Derived.Handy
import Derived.Deep.RegionHeld3
import Derived.Deep.DeepCutAuto
import Derived.Deep.QuietTactic
import Derived.BigQuiet
import Derived.Lib.Hide
import Derived.KernelRfl
import Derived.WalkMore
import Derived.Deep.LoopGhost
import Derived.IntWalk
import Derived.Test.YtcpmkfoelhopiaaE16
namespace Go.Proofs.Ytcpmkfoelhopiaa
open Go.RowKit

set_option maxRecDepth 100000 in
set_option maxHeartbeats 4000000 in
theorem tells_l {g k b a z : Int} {s t : Bool} {R W F : Option Addr} {xs us fs : List Int} {cr cw cf : Nat} {g2 k2 b2 a2 z2 : Int} {s2 t2 : Bool} {R2 W2 F2 : Option Addr} {xs2 us2 fs2 : List Int} {cr2 cw2 cf2 : Nat} (w : World) (h : 100 < z ∨ 100 < z2 ∨ a < -1000 ∨ 1000 < a ∨ a2 < -1000 ∨ 1000 < a2) : Calls Try.prog 7 #[Value.agg #[.int .i64 g, .int .i64 k, .bool s, .bool t, .int .i64 b, .int .i64 a, .int .i64 z, .slice R xs.length cr, .slice W us.length cw, .slice F fs.length cf], Value.agg #[.int .i64 g2, .int .i64 k2, .bool s2, .bool t2, .int .i64 b2, .int .i64 a2, .int .i64 z2, .slice R2 xs2.length cr2, .slice W2 us2.length cw2, .slice F2 fs2.length cf2]] w fun e w' => e = .returned (.bool true) ∧ Plus w w' := by
  rcases h with h | h | h | h | h | h
  all_goals
    go_enter Try.func7, Try.ntmps7
    go_wp2_with (go_at_call 9; (with_reducible refine (first_c _).mono ?_); rintro e w1 ⟨rfl, ⟨y0, rfl⟩⟩)
  all_goals go_returns
  all_goals exact ⟨rfl, (by repeat' (first | exact Plus.refl _ | refine Plus.alloc ?_ _ | refine Plus.plus ?_ _ | refine Plus.drew ?_ | refine Plus.drewN ?_ _))⟩
/-- Do the first j places of the one meet the place p? -/
def inTo (p a2 : Int) (j : Nat) : Bool := (List.range j).any fun y => p == a2 + y
def metTo (a a2 : Int) (i n2 : Nat) : Bool := (List.range i).any fun x => inTo (a + x) a2 n2
theorem inTo_succ (p a2 : Int) (j : Nat) : inTo p a2 (j + 1) = (inTo p a2 j || p == a2 + j) := by
  unfold inTo
  rw [List.range_succ, List.any_append]
  simp
theorem metTo_succ (a a2 : Int) (i n2 : Nat) : metTo a a2 (i + 1) n2 = (metTo a a2 i n2 || inTo (a + i) a2 n2) := by
  unfold metTo
  rw [List.range_succ, List.any_append]
  simp
theorem metTo_iff (a a2 : Int) (i n2 : Nat) : metTo a a2 i n2 = true ↔ a < a2 + n2 ∧ a2 < a + i ∧ 0 < i ∧ 0 < n2 := by
  unfold metTo inTo
  simp only [List.any_eq_true, List.mem_range, beq_iff_eq]
  constructor
  · rintro ⟨x, hx, y, hy, e⟩
    omega
  · rintro ⟨h1, h2, h3, h4⟩
    rcases Int.le_total a a2 with h | h
    · exact ⟨(a2 - a).toNat, by omega, 0, h4, by omega⟩
    · exact ⟨0, h3, (a - a2).toNat, by omega, by omega⟩
def TlOut (a a2 : Int) (n1 n2 : Nat) (s5 s6 : Value) : Prop := ∃ (i : Nat) (m : Bool), s6 = .int .i64 i ∧ s5 = .bool m ∧ i ≤ n1 ∧ metTo a a2 i n2 = m
def TlIn (a a2 : Int) (i n2 : Nat) (m0 : Bool) (s5 s7 : Value) : Prop := ∃ (j : Nat) (m : Bool), s7 = .int .i64 j ∧ s5 = .bool m ∧ j ≤ n2 ∧ (m0 || inTo (a + i) a2 j) = m
set_option maxRecDepth 100000 in
set_option maxHeartbeats 4000000 in
theorem tells_m {g k b a z : Int} {s t : Bool} {R W F : Option Addr} {xs us fs : List Int} {cr cw cf : Nat} {g2 k2 b2 a2 z2 : Int} {s2 t2 : Bool} {R2 W2 F2 : Option Addr} {xs2 us2 fs2 : List Int} {cr2 cw2 cf2 : Nat} (w : World) {o e m : Bool} {n1 n2 : Nat} (i1 : I64 a) (i2 : I64 z) (i3 : I64 a2) (i4 : I64 z2) (HO : Hid (overM k b a z k2 b2 a2 z2 = o)) (HE : Hid (equalM k b a z k2 b2 a2 z2 = e)) (HM : Hid (metTo a a2 n1 n2 = m)) (HOM : Hid (o = (rangesM k k2 && b == b2 && m))) (HEM : Hid (e = (rangesM k k2 && b == b2 && a == a2 && z == z2))) (hn1 : Hid (n1 = z.toNat)) (hn2 : Hid (n2 = z2.toNat)) (z0 : z ≤ 100) (z1 : z2 ≤ 100) (a0 : -1000 ≤ a) (a1 : a ≤ 1000) (a3 : -1000 ≤ a2) (a4 : a2 ≤ 1000) : Calls Try.prog 7 #[Value.agg #[.int .i64 g, .int .i64 k, .bool s, .bool t, .int .i64 b, .int .i64 a, .int .i64 z, .slice R xs.length cr, .slice W us.length cw, .slice F fs.length cf], Value.agg #[.int .i64 g2, .int .i64 k2, .bool s2, .bool t2, .int .i64 b2, .int .i64 a2, .int .i64 z2, .slice R2 xs2.length cr2, .slice W2 us2.length cw2, .slice F2 fs2.length cf2]] w fun e w' => e = .returned (.bool true) ∧ Plus w w' := by
  go_enter Try.func7, Try.ntmps7
  go_wp2_with (go_at_call 9; (with_reducible refine (first_c _).mono ?_); rintro e w1 ⟨rfl, ⟨y0, rfl⟩⟩)
  go_loop [5, 6] (fun s5 s6 => TlOut a a2 n1 n2 s5 s6) (fun _ s6 => ((n1 : Int) - intOf s6).toNat)
  case atStart => exact ⟨0, false, rfl, rfl, Nat.zero_le _, rfl⟩
  case round =>
    obtain ⟨i, m0, rfl, rfl, hi, hm0⟩ := hrel
    have HM0 := Lib.hid hm0
    clear hm0
    by_cases hlt : i < n1
    · have hlt2 : (i : Int) < z := by have := hn1.out; omega
      go_wp2_with fail
      go_loop [5, 7] (fun s5 s7 => TlIn a a2 i n2 m0 s5 s7) (fun _ s7 => ((n2 : Int) - intOf s7).toNat)
      case atStart => exact ⟨0, m0, rfl, rfl, Nat.zero_le _, by simp [inTo]⟩
      case round =>
        obtain ⟨j, m1, rfl, rfl, hj, hm1⟩ := hrel
        have HM1 := Lib.hid hm1
        clear hm1
        by_cases hjl : j < n2
        · have hjl2 : (j : Int) < z2 := by have := hn2.out; omega
          have HS := Lib.hid (inTo_succ (a + i) a2 j)
          cases m1
          · go_wp2_with fail
            go_round
            case rel => exact ⟨j + 1, _, int_eq (by omega), rfl, hjl, by rw [HS.out, ← Bool.or_assoc, HM1.out, Bool.false_or]⟩
            case measure => simp [intOf]; omega
          · go_wp2_with fail
            go_round
            case rel => exact ⟨j + 1, true, int_eq (by omega), rfl, hjl, by rw [HS.out, ← Bool.or_assoc, HM1.out, Bool.true_or]⟩
            case measure => simp [intOf]; omega
        · obtain rfl : j = n2 := by omega
          have hjl2 : ¬ (j : Int) < z2 := by have := hn2.out; omega
          have HS := Lib.hid (metTo_succ a a2 i j)
          go_wp2_with fail
          go_round
          case rel => exact ⟨i + 1, m1, int_eq (by omega), rfl, hlt, by rw [HS.out, HM0.out, HM1.out]⟩
          case measure => simp [intOf]; omega
    · obtain rfl : i = n1 := by omega
      have hlt2 : ¬ (i : Int) < z := by have := hn1.out; omega
      obtain rfl : m0 = m := HM0.out.symm.trans HM.out
      clear hlt hi
      by_cases k0 : k = 0
      · subst k0
        have ho : o = false := by rw [HOM.out]; unfold rangesM; simp []
        have hee : e = false := by rw [HEM.out]; unfold rangesM; simp []
        subst ho hee
        go_wp2_with (first | (go_at_call 9; (with_reducible refine (first_c _).mono ?_); rintro e w1 ⟨rfl, ⟨y1, rfl⟩⟩) | (go_at_call 18; (with_reducible refine (over_n HO _ i1 i2 i3 i4).mono ?_); rintro e w1 ⟨rfl, ⟨y2, rfl⟩⟩) | (go_at_call 16; (with_reducible refine (equal_n HE _).mono ?_); rintro e w1 ⟨rfl, ⟨y3, rfl⟩⟩))
        go_returns
        exact ⟨rfl, (by repeat' (first | exact Plus.refl _ | refine Plus.alloc ?_ _ | refine Plus.plus ?_ _ | refine Plus.drew ?_ | refine Plus.drewN ?_ _))⟩
      · by_cases k1 : k2 = 0
        · subst k1
          have q1 : (k != 0) = true := by simpa using k0
          have ho : o = false := by rw [HOM.out]; unfold rangesM; simp []
          have hee : e = false := by rw [HEM.out]; unfold rangesM; simp []
          subst ho hee
          go_wp2_with (first | (go_at_call 9; (with_reducible refine (first_c _).mono ?_); rintro e w1 ⟨rfl, ⟨y1, rfl⟩⟩) | (go_at_call 18; (with_reducible refine (over_n HO _ i1 i2 i3 i4).mono ?_); rintro e w1 ⟨rfl, ⟨y2, rfl⟩⟩) | (go_at_call 16; (with_reducible refine (equal_n HE _).mono ?_); rintro e w1 ⟨rfl, ⟨y3, rfl⟩⟩))
          go_returns
          exact ⟨rfl, (by repeat' (first | exact Plus.refl _ | refine Plus.alloc ?_ _ | refine Plus.plus ?_ _ | refine Plus.drew ?_ | refine Plus.drewN ?_ _))⟩
        · have q1 : (k != 0) = true := by simpa using k0
          have q2 : (k2 != 0) = true := by simpa using k1
          by_cases hb : b = b2
          · subst hb
            have QQ : Hid (rangesM k k2 = true) := Lib.hid (by unfold rangesM; rw [q1, q2]; rfl)
            cases m0
            · by_cases ha : a = a2
              · subst ha
                by_cases hz : z = z2
                · subst hz
                  have ho : o = false := by rw [HOM.out]; rw [QQ.out]; simp
                  have hee : e = true := by rw [HEM.out]; rw [QQ.out]; simp
                  subst ho hee
                  go_wp2_with (first | (go_at_call 9; (with_reducible refine (first_c _).mono ?_); rintro e w1 ⟨rfl, ⟨y1, rfl⟩⟩) | (go_at_call 18; (with_reducible refine (over_n HO _ i1 i2 i3 i4).mono ?_); rintro e w1 ⟨rfl, ⟨y2, rfl⟩⟩) | (go_at_call 16; (with_reducible refine (equal_n HE _).mono ?_); rintro e w1 ⟨rfl, ⟨y3, rfl⟩⟩))
                  go_returns
                  exact ⟨rfl, (by repeat' (first | exact Plus.refl _ | refine Plus.alloc ?_ _ | refine Plus.plus ?_ _ | refine Plus.drew ?_ | refine Plus.drewN ?_ _))⟩
                · have q3 : (z == z2) = false := by simpa using hz
                  have ho : o = false := by rw [HOM.out]; rw [QQ.out]; simp
                  have hee : e = false := by rw [HEM.out]; rw [QQ.out]; simp [q3]
                  subst ho hee
                  go_wp2_with (first | (go_at_call 9; (with_reducible refine (first_c _).mono ?_); rintro e w1 ⟨rfl, ⟨y1, rfl⟩⟩) | (go_at_call 18; (with_reducible refine (over_n HO _ i1 i2 i3 i4).mono ?_); rintro e w1 ⟨rfl, ⟨y2, rfl⟩⟩) | (go_at_call 16; (with_reducible refine (equal_n HE _).mono ?_); rintro e w1 ⟨rfl, ⟨y3, rfl⟩⟩))
                  go_returns
                  exact ⟨rfl, (by repeat' (first | exact Plus.refl _ | refine Plus.alloc ?_ _ | refine Plus.plus ?_ _ | refine Plus.drew ?_ | refine Plus.drewN ?_ _))⟩
              · have q3 : (a == a2) = false := by simpa using ha
                have ho : o = false := by rw [HOM.out]; rw [QQ.out]; simp
                have hee : e = false := by rw [HEM.out]; rw [QQ.out]; simp [q3]
                subst ho hee
                go_wp2_with (first | (go_at_call 9; (with_reducible refine (first_c _).mono ?_); rintro e w1 ⟨rfl, ⟨y1, rfl⟩⟩) | (go_at_call 18; (with_reducible refine (over_n HO _ i1 i2 i3 i4).mono ?_); rintro e w1 ⟨rfl, ⟨y2, rfl⟩⟩) | (go_at_call 16; (with_reducible refine (equal_n HE _).mono ?_); rintro e w1 ⟨rfl, ⟨y3, rfl⟩⟩))
                go_returns
                exact ⟨rfl, (by repeat' (first | exact Plus.refl _ | refine Plus.alloc ?_ _ | refine Plus.plus ?_ _ | refine Plus.drew ?_ | refine Plus.drewN ?_ _))⟩
            · by_cases ha : a = a2
              · subst ha
                by_cases hz : z = z2
                · subst hz
                  have ho : o = true := by rw [HOM.out]; rw [QQ.out]; simp
                  have hee : e = true := by rw [HEM.out]; rw [QQ.out]; simp
                  subst ho hee
                  go_wp2_with (first | (go_at_call 9; (with_reducible refine (first_c _).mono ?_); rintro e w1 ⟨rfl, ⟨y1, rfl⟩⟩) | (go_at_call 18; (with_reducible refine (over_n HO _ i1 i2 i3 i4).mono ?_); rintro e w1 ⟨rfl, ⟨y2, rfl⟩⟩) | (go_at_call 16; (with_reducible refine (equal_n HE _).mono ?_); rintro e w1 ⟨rfl, ⟨y3, rfl⟩⟩))
                  go_returns
                  exact ⟨rfl, (by repeat' (first | exact Plus.refl _ | refine Plus.alloc ?_ _ | refine Plus.plus ?_ _ | refine Plus.drew ?_ | refine Plus.drewN ?_ _))⟩
                · have q3 : (z == z2) = false := by simpa using hz
                  have ho : o = true := by rw [HOM.out]; rw [QQ.out]; simp
                  have hee : e = false := by rw [HEM.out]; rw [QQ.out]; simp [q3]
                  subst ho hee
                  go_wp2_with (first | (go_at_call 9; (with_reducible refine (first_c _).mono ?_); rintro e w1 ⟨rfl, ⟨y1, rfl⟩⟩) | (go_at_call 18; (with_reducible refine (over_n HO _ i1 i2 i3 i4).mono ?_); rintro e w1 ⟨rfl, ⟨y2, rfl⟩⟩) | (go_at_call 16; (with_reducible refine (equal_n HE _).mono ?_); rintro e w1 ⟨rfl, ⟨y3, rfl⟩⟩))
                  go_returns
                  exact ⟨rfl, (by repeat' (first | exact Plus.refl _ | refine Plus.alloc ?_ _ | refine Plus.plus ?_ _ | refine Plus.drew ?_ | refine Plus.drewN ?_ _))⟩
              · have q3 : (a == a2) = false := by simpa using ha
                have ho : o = true := by rw [HOM.out]; rw [QQ.out]; simp
                have hee : e = false := by rw [HEM.out]; rw [QQ.out]; simp [q3]
                subst ho hee
                go_wp2_with (first | (go_at_call 9; (with_reducible refine (first_c _).mono ?_); rintro e w1 ⟨rfl, ⟨y1, rfl⟩⟩) | (go_at_call 18; (with_reducible refine (over_n HO _ i1 i2 i3 i4).mono ?_); rintro e w1 ⟨rfl, ⟨y2, rfl⟩⟩) | (go_at_call 16; (with_reducible refine (equal_n HE _).mono ?_); rintro e w1 ⟨rfl, ⟨y3, rfl⟩⟩))
                go_returns
                exact ⟨rfl, (by repeat' (first | exact Plus.refl _ | refine Plus.alloc ?_ _ | refine Plus.plus ?_ _ | refine Plus.drew ?_ | refine Plus.drewN ?_ _))⟩
          · have q3 : (b == b2) = false := by simpa using hb
            have ho : o = false := by rw [HOM.out]; rw [q3]; simp
            have hee : e = false := by rw [HEM.out]; rw [q3]; simp
            subst ho hee
            go_wp2_with (first | (go_at_call 9; (with_reducible refine (first_c _).mono ?_); rintro e w1 ⟨rfl, ⟨y1, rfl⟩⟩) | (go_at_call 18; (with_reducible refine (over_n HO _ i1 i2 i3 i4).mono ?_); rintro e w1 ⟨rfl, ⟨y2, rfl⟩⟩) | (go_at_call 16; (with_reducible refine (equal_n HE _).mono ?_); rintro e w1 ⟨rfl, ⟨y3, rfl⟩⟩))
            go_returns
            exact ⟨rfl, (by repeat' (first | exact Plus.refl _ | refine Plus.alloc ?_ _ | refine Plus.plus ?_ _ | refine Plus.drew ?_ | refine Plus.drewN ?_ _))⟩
end Go.Proofs.Ytcpmkfoelhopiaa
