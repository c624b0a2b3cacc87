/- Stores and loads; what the chapter's examples fix, plainly. -/
import Derived.WalkKit
import Derived.WalkSpells
import Derived.WalkLawsBesides
import Derived.Handy
import Derived.Deep.RegionHeld3
import Derived.Deep.DeepCutAuto
import Derived.Deep.QuietTactic
import Derived.BigQuiet
import Derived.Lib.Hide
import Derived.KernelRfl
import Derived.WalkMore
import Derived.Deep.LoopGhost
import Derived.IntWalk
import Derived.Deep.RegionLaw
import Derived.RangeFuncBox
import Derived.Test.YtmfdlcicbiincaaDoorE14
import Derived.Test.YtmfdlcicbiincaaDoorE17
import Derived.Test.YtmfdlcicbiincaaDoorNA
import Derived.Test.YtmfdlcicbiincaaDoorMV
namespace Go.Proofs.YtmfdlcicbiincaaDoor

section
open Go.RowKit


def stE (a x : Int) (s : Bool) : Ev := ⟨a, 2, s, true, 0, 0, 1, [], [x], []⟩
def ldE (a x f : Int) (s : Bool) : Ev := ⟨a, 1, s, true, 0, 0, 1, [x], [], [f]⟩
def RetS (a x : Int) (s : Bool) (w : World) (e : Ending) (w' : World) : Prop := ∃ X : Option Addr, e = .returned (.agg #[.int .i64 a, .int .i64 2, .bool s, .bool true, .int .i64 0, .int .i64 0, .int .i64 1, .slice none 0 0, .slice X 1 1, .slice none 0 0]) ∧ Ar .u8 w' X [x] 1 1 ∧ Plus w w'
def RetD (a x f : Int) (s : Bool) (w : World) (e : Ending) (w' : World) : Prop := ∃ X Y : Option Addr, e = .returned (.agg #[.int .i64 a, .int .i64 1, .bool s, .bool true, .int .i64 0, .int .i64 0, .int .i64 1, .slice X 1 1, .slice none 0 0, .slice Y 1 1]) ∧ Ar .u8 w' X [x] 1 1 ∧ Ar .i64 w' Y [f] 1 1 ∧ Plus w w'
set_option maxRecDepth 100000 in
set_option maxHeartbeats 4000000 in
theorem st_c {a x : Int} {s : Bool} (w : World) : Calls Tryd.prog 39 #[.int .i64 a, .int .u8 x, .bool s] w (RetS a x s w) := by
  go_enter Tryd.func39, Tryd.ntmps39
  go_wp2
  go_returns
  refine ⟨_, rfl, ar_one (xs := [x]) (by simp) (fun j hj => ?_) (by show 1 ≤ 100; omega), (by repeat' (first | exact Plus.refl _ | refine Plus.alloc ?_ _ | refine Plus.plus ?_ _ | refine Plus.drew ?_ | refine Plus.drewN ?_ _))⟩
  rcases j with _ | j
  · simp [go_sem]
  · exact absurd hj (by show ¬ j + 1 < 1; omega)
set_option maxRecDepth 100000 in
set_option maxHeartbeats 4000000 in
theorem ld_c {a x f : Int} {s : Bool} (w : World) : Calls Tryd.prog 40 #[.int .i64 a, .int .u8 x, .int .i64 f, .bool s] w (RetD a x f s w) := by
  go_enter Tryd.func40, Tryd.ntmps40
  go_wp2
  go_returns
  refine ⟨_, _, rfl, ar_one (xs := [x]) (by simp) (fun j hj => ?_) (by show 1 ≤ 100; omega), ar_one (xs := [f]) (by simp) (fun j hj => ?_) (by show 1 ≤ 100; omega), (by repeat' (first | exact Plus.refl _ | refine Plus.alloc ?_ _ | refine Plus.plus ?_ _ | refine Plus.drew ?_ | refine Plus.drewN ?_ _))⟩
  all_goals
    rcases j with _ | j
    · simp [go_sem]
    · exact absurd hj (by show ¬ j + 1 < 1; omega)
end

section
open Go.RowKit


def aL : List Ev := [stE 0 1 true, stE 0 2 true, ldE 1 1 0 true]
def bL : List Ev := [stE 0 1 false, ldE 0 0 (-1) false]
theorem a_may : MayP aL [] := ⟨by show 3 ≤ 1000; omega, by simp, fun i h => absurd h (by simp), fun n hn => by
  rcases n with _ | _ | _ | n
  · exact ⟨by decide, fun i hi => absurd hi (by simp [aL, stE])⟩
  · exact ⟨by decide, fun i hi => absurd hi (by simp [aL, stE])⟩
  · refine ⟨by decide, fun i hi => ?_⟩
    rcases i with _ | i
    · decide
    · exact absurd hi (by show ¬ i + 1 < 1; omega)
  · exact absurd hn (by show ¬ n + 1 + 1 + 1 < 3; omega)⟩
theorem b_may : MayP bL [] := ⟨by show 2 ≤ 1000; omega, by simp, fun i h => absurd h (by simp), fun n hn => by
  rcases n with _ | _ | n
  · exact ⟨by decide, fun i hi => absurd hi (by simp [bL, stE])⟩
  · refine ⟨by decide, fun i hi => ?_⟩
    rcases i with _ | i
    · decide
    · exact absurd hi (by show ¬ i + 1 < 1; omega)
  · exact absurd hn (by show ¬ n + 1 + 1 < 2; omega)⟩
theorem e_may : MayP [] [] := ⟨by simp, by simp, fun i h => absurd h (by simp), fun n hn => absurd hn (by simp)⟩
theorem a_no : befB aL [] 1 2 = false := by
  cases h : befB aL [] 1 2
  · rfl
  · have q := cloB_iff.1 h
    cases q with
    | one e => exact absurd e (by decide)
    | step e k =>
      have f1 := edg_fwd a_may _ _ e
      have f2 := k.fwd (edg_fwd a_may)
      omega
theorem a_yes : befB aL [] 0 2 = true := cloB_iff.2 (.one (by decide))
theorem b_yes : befB bL [] 0 1 = true := cloB_iff.2 (.one (by decide))
theorem a_coh : Fst 3 (CohP aL (befB aL [])) (-1) := .inl ⟨rfl, fun r hr => by
  rintro ⟨i, hi, v, hv, h1, h2, h3, h4⟩
  rcases r with _ | _ | _ | r
  · exact absurd hi (by simp [aL, stE])
  · exact absurd hi (by simp [aL, stE])
  · rcases i with _ | i
    · have e : frA aL 2 0 = 0 := rfl
      rw [e] at h1
      obtain rfl : v = 1 := by omega
      rw [a_no] at h3
      cases h3
    · exact absurd hi (by show ¬ i + 1 < 1; omega)
  · omega⟩
theorem a_atv : AtoP aL (sncB aL []) (befB aL []) (natL 3) 3 2 := ⟨0, by decide, 0, 0, 2, by omega, by omega, rfl, a_yes, rfl, rfl, 1, by omega, by omega, by decide, by decide, .inl ⟨by decide, by decide⟩⟩
theorem a_ato : Fst 3 (AtoP aL (sncB aL []) (befB aL []) (natL 3) 3) 2 := .inr ⟨2, by omega, rfl, a_atv, fun q hq => by
  rintro ⟨i, hi, _⟩
  rcases q with _ | _ | q
  · exact absurd hi (by simp [aL, stE])
  · exact absurd hi (by simp [aL, stE])
  · omega⟩
theorem a_vld : VldR aL [] 3 (natL 3) false := ⟨fun h => absurd a_atv (h.2.2 2 (by omega)), fun h => by cases h⟩
theorem b_coh : Fst 2 (CohP bL (befB bL [])) 1 := .inr ⟨1, by omega, rfl, ⟨0, by decide, 0, by omega, by decide, by decide, b_yes, .inl rfl⟩, fun q hq => by
  rintro ⟨i, hi, _⟩
  obtain rfl : q = 0 := by omega
  exact absurd hi (by simp [bL, stE])⟩
theorem b_tea : Fst 2 (TearP bL) (-1) := .inl ⟨rfl, fun r hr => by
  rintro ⟨_, i, j, hi, hj, h1, _⟩
  rcases r with _ | _ | r
  · exact absurd hi (by simp [bL, stE])
  · rcases i with _ | i
    · exact h1.1 rfl
    · exact absurd hi (by show ¬ i + 1 < 1; omega)
  · omega⟩
theorem e_vld : VldR [] [] 0 [] true := ⟨fun _ => rfl, fun _ => ⟨⟨fun r h => absurd h (by omega), fun r h => absurd h (by omega)⟩, ⟨⟨rfl, fun i h => absurd h (by omega), fun i j _ h => absurd h (by omega)⟩, fun i j _ h => absurd h (by omega)⟩, fun r h => absurd h (by omega)⟩⟩
end
end Go.Proofs.YtmfdlcicbiincaaDoor
