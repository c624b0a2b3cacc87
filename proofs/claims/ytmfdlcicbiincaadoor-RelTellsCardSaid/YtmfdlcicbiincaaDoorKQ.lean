/- A region that draws its order and whose operations only read, walked once, in a round, too. -/
import Derived.Sort.QuietThIn
import Derived.OwnWalkIn
import Derived.RangeFuncCalls
import Derived.Test.YtmfdlcicbiincaaDoorP
namespace Go.Proofs.YtmfdlcicbiincaaDoor
open Go.RowKit

section
variable {F : Fence} {n : Nat} {P : Program} {ops : Array Oper} {C : World → Prop}
def noDefer (l : List Oper) : Bool := l.all fun o => match o.op with | .defer _ => false | _ => true
theorem noDefer_at {l : List Oper} (h : noDefer l = true) {i : Nat} {o : Oper} (hi : l.toArray[i]? = some o) : ∀ c, o.op ≠ .defer c := fun c e => by
  unfold noDefer at h
  have hm : o ∈ l := by
    rw [List.getElem?_toArray] at hi
    exact List.mem_of_getElem? hi
  have q := List.all_eq_true.1 h o hm
  rw [e] at q
  cases q
theorem quiet_op {i : Nat} (hnd : ∀ (o : Oper), ops[i]? = some o → ∀ c, o.op ≠ .defer c) {a : Act} {K : Act → Prop} {K' : Act → World → Prop} {Q' : Exit → Act → World → Prop} {w : World} (hC : C w) (hK : ∀ a w', C w' → K a → K' a w') (hq : qOpIn F n P ops C i K a) : wpOpIn F n P ops Q' i K' a w := by
  unfold qOpIn at hq
  unfold wpOpIn
  cases ho : ops[i]? with
  | none => rw [ho] at hq; exact hK _ _ hC hq
  | some o =>
    rw [ho] at hq
    obtain ⟨hask, hq⟩ := hq
    by_cases hw : Region.wanted o (yielded ops a.tmps) = true
    · rw [if_pos hw] at hq
      simp only [if_pos hw]
      obtain ⟨v, hv, hk⟩ := hq
      refine ⟨hask w hC, ?_⟩
      rw [Oper.semAt_plain F a.eval o (hnd o ho)]
      have hv := hv w hC
      unfold Oper.quietAtIn at hv
      cases hr : (execOp a.eval o).run P w with
      | halt x w' => rw [hr] at hv; exact hv.elim
      | ok x w' =>
        rw [hr] at hv
        cases x <;> simp only [Oper.quietUponIn] at hv
        case value u => obtain ⟨e1, e2⟩ := hv; subst e1 e2; exact hK _ _ hC hk
        case skip => obtain ⟨e1, e2⟩ := hv; subst e1 e2; exact hK _ _ hC hk
        case enter f args =>
          obtain ⟨e1, hd, hc⟩ := hv
          subst e1
          exact ⟨hd, hc.mono fun e w2 ⟨he, hw2⟩ => by subst he; exact hK _ _ hw2 hk⟩
    · rw [if_neg hw] at hq
      simp only [if_neg hw]
      exact ⟨hask w hC, hK _ _ hC hq⟩
theorem quiet_any (hnd : ∀ (i : Nat) (o : Oper), ops[i]? = some o → ∀ c, o.op ≠ .defer c) {Q : Act → Prop} {Q' : Exit → Act → World → Prop} (hQ : ∀ a w, C w → Q a → Q' .normal a w) : ∀ (fuel : Nat) (listed : Array Bool) (a : Act) (w : World), C w → wpAnyQIn F n P .any ops C Q fuel listed a → wpAnyIn F n P .any ops Q' fuel listed a w
  | 0, _, a, w, hC, h => ⟨h.1, hQ a w hC h.2⟩
  | k + 1, _, a, w, hC, h => ⟨fun e => hQ a w hC (h.1 e), fun i hi => quiet_op (hnd i) hC (fun a' w' hC' => quiet_any hnd hQ k _ a' w' hC') (h.2 i hi)⟩
end
/-- One walk in the order of the text; the callees' worlds have grown. -/
theorem regionIn_plus {F : Fence} {n : Nat} {P : Program} {id : Nat} {Q : Exit → Act → World → Prop} {a : Act} {w : World} {l : List Oper} (hm : P.follows .mixedOrders = true) (hB : Region.lexB .any l.toArray = true) (hd : noDefer l = true)
    (h : wpQuietIn F n P l.toArray (fun w' => ∃ x, w' = plus w x) (fun a' => ∀ w', (∃ x, w' = plus w x) → Q .normal a' w') l a) : (Code.region id l.toArray true).wpIn F n P Q a w := by
  simp only [Region.lexB, Bool.and_eq_true] at hB
  refine wpIn_region_any hm (quiet_any (C := fun w' => ∃ x, w' = plus w x) (Q := fun a' => ∀ w', (∃ x, w' = plus w x) → Q .normal a' w') (fun i o hi => noDefer_at hd hi) (fun _ w' hw' h => h w' hw') _ _ _ _ ⟨⟨[], w.drawn + 1⟩, by simp [plus]⟩ ?_)
  have q := wpAnyQIn_lex (F := F) (n := n) (C := fun w' => ∃ x, w' = plus w x) (md := .any) hB.1 l.toArray.toList 0 (Array.replicate l.toArray.size false) a (by simp) (by simpa using hB.2) (by simpa using h)
  simpa using q
theorem callsIn_plus {P : Program} {f : FuncId} {args : Array Value} {w : World} {x : More} {v : Value} {k l0 : Nat}
    (h : Calls P f args (plus w x) fun e w' => e = .returned v ∧ Plus (plus w x) w') : CallsIn (Fence.wide.inRound l0) k P f args (plus w x) fun e w'' => e = .returned v ∧ ∃ y, w'' = plus w y :=
  CallsIn.inRound l0 (callsIn_wide.2 (h.mono fun _ _ ⟨he, hp⟩ => ⟨he, (Plus.is x).trans hp⟩))
end Go.Proofs.YtmfdlcicbiincaaDoor
