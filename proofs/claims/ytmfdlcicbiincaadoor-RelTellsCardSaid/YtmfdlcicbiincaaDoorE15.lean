/- Few. -/
import Derived.WalkKit
import Derived.WalkSpells
import Derived.WalkLawsBesides
import Derived.Handy
import Derived.Deep.RegionHeld3
import Derived.Deep.DeepCutAuto
import Derived.Deep.QuietTactic
import Derived.BigQuiet
import Derived.Lib.Hide
import Derived.KernelRfl
import Derived.WalkMore
import Derived.Deep.LoopGhost
import Derived.IntWalk
import Derived.Test.YtmfdlcicbiincaaDoorE14
namespace Go.Proofs.YtmfdlcicbiincaaDoor
open Go.RowKit

def SmE (x : ER) : Prop := x.e.r.length ≤ 20000 ∧ x.e.w.length ≤ 20000 ∧ x.e.f.length ≤ 20000
def FwRel (rs : List ER) (most : Int) (s5 s6 : Value) : Prop := ∃ (k : Nat) (tot : Int), s5 = .int .i64 tot ∧ s6 = .int .i64 k ∧ k ≤ rs.length ∧ (k : Int) ≤ most + 1 ∧ 0 ≤ tot ∧ tot ≤ k * 60003 ∧ (tot ≤ 20000 → ∀ i, i < k → SmE (rs.getD i default))
/-- What Few tells. -/
def RetFew (rs : List ER) (m : Nat) (most : Int) (w : World) (e : Ending) (w' : World) : Prop := ∃ b : Bool, e = .returned (.bool b) ∧ (b = true → (rs.length : Int) ≤ most ∧ (m : Int) ≤ most ∧ ∀ x ∈ rs, SmE x) ∧ Plus w w'
theorem min_cases (n : Nat) : ∃ x : Int, (x = n ∧ (n : Int) ≤ 20001) ∨ (x = 20001 ∧ (20001 : Int) < n) := by
  by_cases h : (n : Int) ≤ 20001
  · exact ⟨_, .inl ⟨rfl, h⟩⟩
  · exact ⟨_, .inr ⟨rfl, by omega⟩⟩
set_option maxRecDepth 100000 in
set_option maxHeartbeats 4000000 in
theorem few_c {A B : Option Addr} {rs : List ER} {n c m d : Nat} {most : Int} (w : World) (he : Es w A rs n c) (h0 : 0 ≤ most) (h1 : most ≤ 1000) : Calls Tryd.prog 11 #[.agg #[.slice A n c, .slice B m d], .int .i64 most] w (RetFew rs m most w) := by
  obtain rfl := he.len
  have hcap := he.cap
  have hmax := he.max
  have H := Lib.hid he
  clear he
  go_enter Tryd.func11, Tryd.ntmps11
  go_wp2_with fail
  go_loopw [5, 6] (fun s5 s6 wr => FwRel rs most s5 s6 ∧ Plus (w.alloc (.cells #[.slice A rs.length c, .slice B m d] 25)) wr) (fun _ s6 _ => ((rs.length : Int) - intOf s6).toNat)
  case atStart => exact ⟨⟨0, 0, rfl, rfl, by omega, by omega, by omega, by omega, fun _ i h => absurd h (by omega)⟩, Plus.refl _⟩
  case round =>
    obtain ⟨⟨k, tot, rfl, rfl, hk, hkm, ht0, ht1, hall⟩, ⟨x, rfl⟩⟩ := hrel
    by_cases hlt : k < rs.length ∧ (k : Int) ≤ most
    · obtain ⟨hlt, hm⟩ := hlt
      obtain ⟨g, o, y, rfl, hx, hxm, hM, q0, q1, q2, q3, q4, q5, q6, q7, q8, q9⟩ := (H.out.plus (Plus.alloc (Plus.refl _) (.cells #[.slice A rs.length c, .slice B m d] 25) |>.plus x)).at_ hlt
      obtain ⟨⟨g1, k1, s1, t1, b1, a1, z1, xs1, us1, fs1⟩, R1, cr1, W1, cw1, F1, cf1⟩ := y
      simp only at q0 q1 q2 q3 q4 q5 q6 q7 q8 q9
      have hadd := add_addr g o (k * 10)
      have HX := Lib.hid hx
      have HALL := Lib.hid hall
      clear hx hall hxm hM
      go_wp2_with fail
      go_quiet (fail)
      go_wp2_with fail
      go_roundw
      case rel => exact ⟨⟨k + 1, _, rfl, int_eq (by omega), hlt, by omega, by (repeat' split) <;> omega, by (repeat' split) <;> omega, fun h i hi => by
        by_cases e : i = k
        · rw [e, HX.out]
          refine ⟨?_, ?_, ?_⟩ <;> simp only <;> (repeat' split at h) <;> omega
        · exact HALL.out (by (repeat' split at h) <;> omega) i (by omega)⟩, (by repeat' (first | exact Plus.refl _ | refine Plus.alloc ?_ _ | refine Plus.plus ?_ _ | refine Plus.drew ?_ | refine Plus.drewN ?_ _))⟩
      case measure => simp [intOf]; omega
    · have hkl : (k : Int) ≤ most → k = rs.length := fun h => by
        rcases Nat.lt_or_ge k rs.length with h2 | h2
        · exact absurd ⟨h2, h⟩ hlt
        · omega
      have HALL := Lib.hid hall
      have HKL := Lib.hid hkl
      have hnl : ¬ ((k : Int) < (rs.length : Int) ∧ (k : Int) ≤ most) := fun h => hlt ⟨by omega, h.2⟩
      clear hall hlt hkl
      have HB : ∀ b : Bool, (b = true → (rs.length : Int) ≤ most ∧ (m : Int) ≤ most ∧ tot ≤ 20000) → (b = true → (rs.length : Int) ≤ most ∧ (m : Int) ≤ most ∧ ∀ x ∈ rs, SmE x) := fun b hb h => by
        have hb := hb h
        refine ⟨hb.1, hb.2.1, fun x hx => ?_⟩
        obtain ⟨i, hi, e⟩ := List.getElem_of_mem hx
        have hkn : k = rs.length := HKL.out (by omega)
        have q := HALL.out hb.2.2 i (by omega)
        rw [List.getD_eq_getElem?_getD, List.getElem?_eq_getElem hi] at q
        rw [← e]
        exact q
      have HBB := Lib.hid HB
      clear HB
      by_cases hk2 : k < rs.length
      · have hm2 : ¬ (k : Int) ≤ most := fun h => hnl ⟨by omega, h⟩
        clear hnl
        go_wp2_with fail
        all_goals go_returns
        all_goals exact ⟨_, rfl, HBB.out _ (by intro h; first | (exfalso; revert h; simp; done) | (simp at h; omega)), (by repeat' (first | exact Plus.refl _ | refine Plus.alloc ?_ _ | refine Plus.plus ?_ _ | refine Plus.drew ?_ | refine Plus.drewN ?_ _))⟩
      · obtain rfl : k = rs.length := by omega
        clear hnl hk2
        go_wp2_with fail
        all_goals go_returns
        all_goals exact ⟨_, rfl, HBB.out _ (by intro h; first | (exfalso; revert h; simp; done) | (simp at h; omega)), (by repeat' (first | exact Plus.refl _ | refine Plus.alloc ?_ _ | refine Plus.plus ?_ _ | refine Plus.drew ?_ | refine Plus.drewN ?_ _))⟩
end Go.Proofs.YtmfdlcicbiincaaDoor
