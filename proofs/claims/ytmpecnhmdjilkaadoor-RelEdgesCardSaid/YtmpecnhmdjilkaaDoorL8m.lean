/- RelEdges: plain facts. -/
import Derived.WalkKit
import Derived.WalkSpells
import Derived.WalkLawsBesides
import Derived.Handy
import Derived.Deep.RegionHeld3
import Derived.Deep.DeepCutAuto
import Derived.Deep.QuietTactic
import Derived.BigQuiet
import Derived.Lib.Hide
import Derived.KernelRfl
import Derived.WalkMore
import Derived.Deep.LoopGhost
import Derived.IntWalk
import Derived.Deep.RegionLaw
import Derived.RangeFuncBox
import Derived.Test.YtmpecnhmdjilkaaDoorK18
namespace Go.Proofs.YtmpecnhmdjilkaaDoor
open Go.RowKit


theorem may_more {l : List Ev} {ps : List Pr} (h : MayP l ps) {a b : Nat} (hab : a < b) (hb : b < l.length) (hm : ps.length ≤ 60) : MayP l (ps ++ [((a : Int), (b : Int))]) := by
  refine ⟨h.1, by rw [List.length_append]; show ps.length + 1 ≤ 1000; omega, fun i hi => ?_, h.2.2.2⟩
  rw [List.length_append] at hi
  rw [List.getD_eq_getElem?_getD, List.getElem?_append]
  by_cases q : i < ps.length
  · rw [if_pos q, ← List.getD_eq_getElem?_getD]
    exact h.2.2.1 i q
  · rw [if_neg q]
    obtain rfl : i = ps.length := by
      have e : i < ps.length + 1 := hi
      omega
    rw [Nat.sub_self]
    show pairOk l.length ((a : Int), (b : Int))
    unfold pairOk amongM
    simp
    omega
theorem edg_more {l : List Ev} {ps : List Pr} {a b x y : Nat} : edgB l (ps ++ [((a : Int), (b : Int))]) x y = (edgB l ps x y || (x == a && y == b)) := by
  unfold edgB sncB
  rw [prB_snoc]
  cases frmB l x y && synB l x y <;> cases prB ps x y <;> cases stpB l x y <;> cases (x == a && y == b) <;> rfl
noncomputable def wayB (l : List Ev) (ps : List Pr) (a b x y : Nat) : Bool := (decide (x = a) || befB l ps x a) && (decide (y = b) || befB l ps b y)
theorem bef_more {l : List Ev} {ps : List Pr} {a b x y : Nat} : befB l (ps ++ [((a : Int), (b : Int))]) x y = (befB l ps x y || wayB l ps a b x y) := by
  have up : ∀ x y, TrG (edgB l ps) x y → TrG (edgB l (ps ++ [((a : Int), (b : Int))])) x y := fun x y t => by
    induction t with
    | one h => exact .one (by rw [edg_more, h]; rfl)
    | step h _ ih => exact .step (by rw [edg_more, h]; rfl) ih
  have ab : TrG (edgB l (ps ++ [((a : Int), (b : Int))])) a b := .one (by rw [edg_more]; simp)
  have q : befB l (ps ++ [((a : Int), (b : Int))]) x y = true ↔ (befB l ps x y || wayB l ps a b x y) = true := by
    unfold wayB befB
    simp only [Bool.or_eq_true, Bool.and_eq_true, decide_eq_true_eq, cloB_iff]
    constructor
    · intro t
      induction t with
      | one h =>
        rw [edg_more] at h
        simp only [Bool.or_eq_true, Bool.and_eq_true, beq_iff_eq] at h
        rcases h with h | ⟨rfl, rfl⟩
        · exact .inl (.one h)
        · exact .inr ⟨.inl rfl, .inl rfl⟩
      | step h _ ih =>
        rw [edg_more] at h
        simp only [Bool.or_eq_true, Bool.and_eq_true, beq_iff_eq] at h
        rcases h with h | ⟨rfl, rfl⟩
        · rcases ih with ih | ⟨ih1, ih2⟩
          · exact .inl (.step h ih)
          · right
            refine ⟨?_, ih2⟩
            rcases ih1 with rfl | ih1
            · exact .inr (.one h)
            · exact .inr (.step h ih1)
        · rcases ih with ih | ⟨_, ih2⟩
          · exact .inr ⟨.inl rfl, .inr ih⟩
          · exact .inr ⟨.inl rfl, ih2⟩
    · rintro (t | ⟨t1, t2⟩)
      · exact up _ _ t
      · have p1 : TrG (edgB l (ps ++ [((a : Int), (b : Int))])) x b := by
          rcases t1 with rfl | t1
          · exact ab
          · exact (up _ _ t1).trans ab
        rcases t2 with rfl | t2
        · exact p1
        · exact p1.trans (up _ _ t2)
  cases h1 : befB l (ps ++ [((a : Int), (b : Int))]) x y <;> cases h2 : (befB l ps x y || wayB l ps a b x y) <;> simp_all
/-- A log's head that is the whole of it, in rows of the call's own. -/
def RetHo (l : List Ev) (ps : List Pr) (n m : Nat) (w : World) (e : Ending) (w' : World) : Prop := ∃ (V : Option Addr) (c : Nat) (ys : List ER) (V2 : Option Addr) (c2 : Nat), e = .returned (.agg #[.slice V n c, .slice V2 m c2]) ∧ ys.length = n ∧ w'.ownsRow w.heap.size 46 10 (.slice V n c) n (rowE ys) ∧ (∀ y ∈ ys, OwnE w.heap.size w' y) ∧ w'.ownsRow w.heap.size 40 2 (.slice V2 m c2) m (rowP ps) ∧ ys.map (·.e) = l ∧ Plus w w'
theorem head_o {l : List Ev} {ps : List Pr} {A B : Option Addr} {n c m d : Nat} (w : World) (H : Lg w l ps A n c B m d) (HS : SmL l) (HM : MayP l ps) : Calls Tryd.prog 24 #[.agg #[.slice A n c, .slice B m d], .int .i64 (n : Nat)] w (RetHo l ps n m w) := by
  obtain ⟨rs, hrl, hes⟩ := H.ev
  have hn := H.len
  have e1 : hdN ((n : Nat) : Int) n = n := by unfold hdN; omega
  have h1 := head_n (z := ((n : Nat) : Int)) w hes H.pa (sml_mem (by rw [hrl]; exact HS)) (by rw [hn.1]; have := HM.1; omega) (by rw [hn.2]; have := HM.2.1; omega)
  rw [e1, hrl] at h1
  refine h1.mono fun e w' ⟨V, cV, ys, V2, cV2, q1, q2, q3, q4, q5, q6⟩ => ?_
  have e2 : l.take n = l := List.take_of_length_le (by omega)
  have e3 : ps.filter (amB n) = ps := by rw [hn.1]; exact may_filter HM
  rw [e2] at q5
  rw [e3] at q1 q4
  have e4 : ys.length = n := by rw [hn.1, ← q5, List.length_map]
  rw [e4] at q1 q2
  rw [← hn.2] at q1 q4
  exact ⟨V, cV, ys, V2, cV2, q1, e4, q2, q3, q4, q5, q6⟩
end Go.Proofs.YtmpecnhmdjilkaaDoor
