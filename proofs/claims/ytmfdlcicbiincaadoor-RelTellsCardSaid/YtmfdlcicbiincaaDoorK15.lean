/- What leads to what: the plain facts; a row changed for another. -/
import Derived.WalkKit
import Derived.WalkSpells
import Derived.WalkLawsBesides
import Derived.Handy
import Derived.Deep.RegionHeld3
import Derived.Deep.DeepCutAuto
import Derived.Deep.QuietTactic
import Derived.BigQuiet
import Derived.Lib.Hide
import Derived.KernelRfl
import Derived.WalkMore
import Derived.Deep.LoopGhost
import Derived.IntWalk
import Derived.Deep.RegionLaw
import Derived.RangeFuncBox
import Derived.Test.YtmfdlcicbiincaaDoorK14
namespace Go.Proofs.YtmfdlcicbiincaaDoor
open Go.RowKit


/-- Edges, one or more. -/
inductive TrG (E : Nat → Nat → Bool) : Nat → Nat → Prop
  | one {a b : Nat} : E a b = true → TrG E a b
  | step {a c b : Nat} : E a c = true → TrG E c b → TrG E a b
open Classical in
noncomputable def cloB (E : Nat → Nat → Bool) (a b : Nat) : Bool := decide (TrG E a b)
section
variable {E : Nat → Nat → Bool} {a b c n : Nat}
theorem cloB_iff : cloB E a b = true ↔ TrG E a b := by unfold cloB; simp
theorem TrG.trans (h : TrG E a b) (k : TrG E b c) : TrG E a c := by
  induction h with
  | one h => exact .step h k
  | step h _ ih => exact .step h (ih k)
theorem TrG.fwd (hE : ∀ a b, E a b = true → a < b ∧ b < n) (h : TrG E a b) : a < b ∧ b < n := by
  induction h with
  | one h => exact hE _ _ h
  | step h _ ih => have := hE _ _ h; omega
theorem TrG.cases_ (h : TrG E a b) : E a b = true ∨ ∃ c, E a c = true ∧ TrG E c b := by
  cases h with
  | one h => exact .inl h
  | step h k => exact .inr ⟨_, h, k⟩
/-- What row a holds when the rows of pre have been joined. -/
noncomputable def joinB (E : Nat → Nat → Bool) (a : Nat) (pre : List Nat) (y : Nat) : Bool := E a y || pre.any fun c => cloB E c y
theorem joinB_nil : joinB E a [] = E a := by funext y; simp [joinB]
theorem joinB_snoc {pre : List Nat} {x : Nat} : joinB E a (pre ++ [x]) = uni (joinB E a pre) (cloB E x) := by funext y; simp [joinB, uni, Bool.or_assoc]
theorem joinB_all {K : Nat} (hE : ∀ a b, E a b = true → a < b ∧ b < n) (hn : n ≤ 64 * K) (y : Nat) : joinB E a (mem (E a) (64 * K)) y = cloB E a y := by
  have q : joinB E a (mem (E a) (64 * K)) y = true ↔ cloB E a y = true := by
    rw [cloB_iff]
    unfold joinB mem
    simp only [Bool.or_eq_true, List.any_eq_true, List.mem_filter, List.mem_range]
    constructor
    · rintro (h | ⟨c, ⟨_, h⟩, k⟩)
      · exact .one h
      · exact .step h (cloB_iff.1 k)
    · intro h
      rcases h.cases_ with h | ⟨c, h, k⟩
      · exact .inl h
      · exact .inr ⟨c, ⟨by have := hE _ _ h; omega, h⟩, cloB_iff.2 k⟩
  cases h1 : joinB E a (mem (E a) (64 * K)) y <;> cases h2 : cloB E a y <;> simp_all
/-- Rows from i on are complete. -/
noncomputable def midB (E : Nat → Nat → Bool) (i : Nat) : Nat → Nat → Bool := fun x y => if x < i then E x y else cloB E x y
theorem mid_lo {i : Nat} (h : a < i) : midB E i a = E a := by funext y; simp [midB, h]
theorem mid_hi {i : Nat} (h : i ≤ a) : midB E i a = cloB E a := by funext y; simp [midB, Nat.not_lt.2 h]
end
theorem own_put {w : World} {B n a K g X : Nat} {A : Option Addr} {c : Nat} {hs : List Nat} (h : w.ownsRow B 72 1 (.slice A n c) n (rvs K hs)) (hA : A = some ⟨g, 0, none⟩) (hl : hs.length = n) : (w.setCell ⟨g, a, none⟩ (.slice (some ⟨X, 0, none⟩) K K)).ownsRow B 72 1 (.slice A n c) n (rvs K (hs.set a X)) := by
  subst hA
  rcases h.2 with ⟨e, _⟩ | ⟨g', cap, cur, e, hbg, hg, hlc, hm, hs', ht⟩
  · cases e
  · injection e with e1 _ e3
    injection e1 with e1
    injection e1 with e1 _ _
    subst e1 e3
    refine ⟨by rw [rvs_len, List.length_set]; omega, .inr ⟨g, c, cur.setIfInBounds a (.slice (some ⟨X, 0, none⟩) K K), rfl, hbg, ?_, hlc, hm, by simpa using hs', ?_⟩⟩
    · simp [World.setCell, Array.getElem?_modify, hg]
    · have e4 : (cur.setIfInBounds a (.slice (some ⟨X, 0, none⟩) K K)).toList = cur.toList.set a (.slice (some ⟨X, 0, none⟩) K K) := by simp
      rw [e4, List.take_set, ht]
      unfold rvs
      rw [List.map_set]
/-- A row changed for another. -/
theorem Rl.put {w : World} {B p n K a g c X : Nat} {R : Nat → Nat → Bool} {hs : List Nat} {s : Nat → Bool} (H : Rl w B p n K R hs) (hb : Boxed w p 69 (.slice (some ⟨g, 0, none⟩) n c)) (ha : a < n) (hX : Rw w X K s) (hn : X ∉ hs) (hB : B ≤ X) : Rl (w.setCell ⟨g, a, none⟩ (.slice (some ⟨X, 0, none⟩) K K)) B p n K (fun x => if x = a then s else R x) (hs.set a X) := by
  obtain ⟨⟨v, hv, ho⟩, q1, q2, q3, q4, q5⟩ := H
  obtain rfl : v = .slice (some ⟨g, 0, none⟩) n c := by
    have q := hv.symm.trans hb
    injection q with q
    injection q with q _ _
    simpa using q
  obtain ⟨cur, hcur⟩ : ∃ cur, w.heap[g]? = some (.cells cur 72 (0, 0)) := by
    rcases ho.2 with ⟨e, _⟩ | ⟨g', cap, cur, e, _, hg, _⟩
    · cases e
    · injection e with e1 _ _
      injection e1 with e1
      injection e1 with e1 _ _
      subst e1
      exact ⟨cur, hg⟩
  refine ⟨⟨_, ?_, own_put ho rfl q1⟩, by rw [List.length_set]; exact q1, ?_, ?_, q4, fun x hx => ?_⟩
  · have hne : p ≠ g := fun e => by
      subst e
      unfold Boxed at hb
      rw [hcur] at hb
      injection hb with hb
      injection hb with _ hb _
      exact absurd hb (by decide)
    have hne2 : g ≠ p := fun e => hne e.symm
    unfold Boxed at hb ⊢
    simp only [World.setCell, Array.getElem?_modify, if_neg hne2]
    exact hb
  · unfold List.Nodup at q2 ⊢
    rw [List.pairwise_iff_getElem] at q2 ⊢
    intro i j hi hj hij
    rw [List.getElem_set, List.getElem_set]
    rw [List.length_set] at hi hj
    have him : ∀ k (hk : k < hs.length), hs[k] ≠ X := fun k hk e => hn (by rw [← e]; exact List.getElem_mem hk)
    by_cases e1 : a = i
    · have e2 : ¬ a = j := by omega
      rw [if_pos e1, if_neg e2]
      exact fun e => him j hj e.symm
    · rw [if_neg e1]
      by_cases e2 : a = j
      · rw [if_pos e2]
        exact him i hi
      · rw [if_neg e2]
        exact q2 i j hi hj hij
  · intro h hh
    rcases List.mem_or_eq_of_mem_set hh with h1 | h1
    · exact q3 h h1
    · subst h1; exact hB
  · rw [List.getD_eq_getElem?_getD, List.getElem?_set]
    by_cases e : a = x
    · subst e
      rw [if_pos rfl, if_pos (by omega)]
      simp only
      exact hX.ty hcur (by decide)
    · rw [if_neg e, ← List.getD_eq_getElem?_getD]
      have e2 : ¬ x = a := fun e3 => e e3.symm
      simp only [if_neg e2]
      exact (q5 x hx).ty hcur (by decide)
end Go.Proofs.YtmfdlcicbiincaaDoor
