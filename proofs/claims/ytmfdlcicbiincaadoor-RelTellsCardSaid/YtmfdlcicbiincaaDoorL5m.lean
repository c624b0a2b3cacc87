/- RelGoes: plain facts. -/
import Derived.WalkKit
import Derived.WalkSpells
import Derived.WalkLawsBesides
import Derived.Handy
import Derived.Deep.RegionHeld3
import Derived.Deep.DeepCutAuto
import Derived.Deep.QuietTactic
import Derived.BigQuiet
import Derived.Lib.Hide
import Derived.KernelRfl
import Derived.WalkMore
import Derived.Deep.LoopGhost
import Derived.IntWalk
import Derived.Deep.RegionLaw
import Derived.RangeFuncBox
import Derived.Test.YtmfdlcicbiincaaDoorK18
namespace Go.Proofs.YtmfdlcicbiincaaDoor
open Go.RowKit


theorem lastB_ge {l : List Ev} {g : Int} {a : Nat} (hg : (l.getD a default).g = g) : ∀ {b : Nat}, a < b → ∃ c, lastB l b g = some c ∧ a ≤ c ∧ (l.getD c default).g = g
  | 0, h => absurd h (by omega)
  | b + 1, h => by
    unfold lastB
    by_cases e : (l.getD b default).g = g
    · rw [if_pos e]; exact ⟨b, rfl, by omega, e⟩
    · rw [if_neg e]
      have hab : a < b := by
        rcases Nat.lt_or_ge a b with q | q
        · exact q
        · obtain rfl : a = b := by omega
          exact absurd hg e
      obtain ⟨c, h1, h2⟩ := lastB_ge hg hab
      exact ⟨c, by cases b <;> exact h1, h2⟩
theorem agent_path {l : List Ev} {ps : List Pr} : ∀ {k a b : Nat}, b - a ≤ k → a < b → b < l.length → (l.getD a default).g = (l.getD b default).g → TrG (edgB l ps) a b
  | 0, a, b, hk, hab, _, _ => by omega
  | k + 1, a, b, hk, hab, hb, hg => by
    obtain ⟨c, h1, h2, h3⟩ := lastB_ge hg hab
    have hcb := lastB_lt h1
    have hs : edgB l ps c b = true := by
      unfold edgB stpB
      rw [h1]
      simp [hb]
    rcases Nat.lt_or_ge a c with q | q
    · exact (agent_path (k := k) (by omega) q (by omega) (hg.trans h3.symm)).trans (.one hs)
    · obtain rfl : a = c := by omega
      exact .one hs
/-- One step: an agent's order, or a synchronization. -/
def oneB (l : List Ev) (ps : List Pr) (a b : Nat) : Bool := decide (a < b) && (decide ((l.getD a default).g = (l.getD b default).g) || sncB l ps a b)
noncomputable def thrB (l : List Ev) (ps : List Pr) (a b c : Nat) : Bool := (List.range c).any fun i => befB l ps a i && befB l ps i b
theorem thrB_succ {l : List Ev} {ps : List Pr} {a b c : Nat} : thrB l ps a b (c + 1) = (thrB l ps a b c || (befB l ps a c && befB l ps c b)) := by
  unfold thrB
  rw [List.range_succ, List.any_append]
  simp
theorem stp_one {l : List Ev} {a b : Nat} (h : stpB l a b = true) : (l.getD a default).g = (l.getD b default).g ∧ a < b := by
  unfold stpB at h
  simp only [Bool.and_eq_true, decide_eq_true_eq] at h
  refine ⟨?_, lastB_lt h.2⟩
  have key : ∀ (b : Nat) (g : Int), lastB l b g = some a → (l.getD a default).g = g := fun b g => by
    induction b with
    | zero => intro h; cases h
    | succ b ih =>
      intro h
      unfold lastB at h
      split at h
      · rename_i e
        injection h with h
        rw [← h]
        exact e
      · exact ih (by cases b <;> exact h)
  exact key _ _ h.2
theorem bef_goes {l : List Ev} {ps : List Pr} (h : MayP l ps) {a b : Nat} (hb : b < l.length) : befB l ps a b = (oneB l ps a b || thrB l ps a b l.length) := by
  have q : befB l ps a b = true ↔ (oneB l ps a b || thrB l ps a b l.length) = true := by
    rw [Bool.or_eq_true]
    unfold befB
    rw [cloB_iff]
    constructor
    · intro t
      rcases t.cases_ with t | ⟨c, t, k⟩
      · left
        have f := edg_fwd h _ _ t
        unfold edgB at t
        unfold oneB
        simp only [Bool.and_eq_true, decide_eq_true_eq, Bool.or_eq_true] at t ⊢
        rcases t with t | t
        · exact ⟨f.1, .inr t⟩
        · exact ⟨f.1, .inl (stp_one t).1⟩
      · right
        have f := edg_fwd h _ _ t
        unfold thrB
        rw [List.any_eq_true]
        exact ⟨c, by rw [List.mem_range]; exact f.2, by rw [Bool.and_eq_true]; exact ⟨cloB_iff.2 (.one t), cloB_iff.2 k⟩⟩
    · rintro (t | t)
      · unfold oneB at t
        simp only [Bool.and_eq_true, decide_eq_true_eq, Bool.or_eq_true] at t
        obtain ⟨t1, t2 | t2⟩ := t
        · exact agent_path (k := b - a) (Nat.le_refl _) t1 hb t2
        · exact .one (by unfold edgB; rw [t2]; rfl)
      · unfold thrB at t
        rw [List.any_eq_true] at t
        obtain ⟨c, _, t⟩ := t
        rw [Bool.and_eq_true] at t
        exact (cloB_iff.1 t.1).trans (cloB_iff.1 t.2)
  cases h1 : befB l ps a b <;> cases h2 : (oneB l ps a b || thrB l ps a b l.length) <;> simp_all
theorem bef_lt {l : List Ev} {ps : List Pr} (h : MayP l ps) {a b : Nat} (q : befB l ps a b = true) : a < b := ((cloB_iff.1 q).fwd (edg_fwd h)).1
end Go.Proofs.YtmfdlcicbiincaaDoor
