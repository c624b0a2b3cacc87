/- A range over a function whose iterator ranges over another one: what a round keeps, the contract of an iterator, the caller's law; the marks at a return. -/
import Derived.RangeFuncBox
import Derived.RangeFuncNested
import Derived.RangeFuncBound
import Derived.RangeFuncCalls
import Derived.RangeFuncLeaves
import Derived.Shelf.Abstract
import Derived.WalkKit
import Derived.Test.YtmfdlcicbiincaaDoorP
namespace Go.Proofs.YtmfdlcicbiincaaDoor
open Go.RowKit

/-- What an iterator makes: boxes of ints, of functions, of rows, of pointers to relations; whatever is no cells. -/
def mineO : Obj → Bool
  | .cells _ e _ => e == 3 || e == 44 || e == 72 || e == 33 || e == 23
  | _ => true
/-- Of what lies at B or beyond, all that an iterator may have made lies as it lay. -/
structure Kept (B : Nat) (W W' : World) : Prop where
  size : W.heap.size ≤ W'.heap.size
  same : ∀ (k : Nat) (o : Obj), B ≤ k → W.heap[k]? = some o → mineO o = true → W'.heap[k]? = some o
theorem mine_not {o : Obj} (h : o.isCells = false) : mineO o = true := by cases o <;> simp_all [mineO, Obj.isCells]
section
variable {B : Nat} {W W' W2 : World}
theorem Kept.refl (B : Nat) (W : World) : Kept B W W := ⟨Nat.le_refl _, fun _ _ _ h _ => h⟩
theorem Kept.trans (h : Kept B W W') (k : Kept B W' W2) : Kept B W W2 := ⟨Nat.le_trans h.size k.size, fun i o hB hi ho => k.same i o hB (h.same i o hB hi ho) ho⟩
theorem Kept.mono (h : Kept B W W') {C : Nat} (hc : B ≤ C) : Kept C W W' := ⟨h.size, fun k _ hk => h.same k _ (by omega)⟩
theorem Kept.of_grown {row : Option Nat} (hg : W.grownBy W' row) (hr : ∀ r o, row = some r → B ≤ r → W.heap[r]? = some o → mineO o = false) : Kept B W W' :=
  ⟨hg.size, fun k o hB hk hm => (hg.block k (Array.getElem?_eq_some_iff.1 hk).1 (fun e => by rw [hr k o e.symm hB hk] at hm; cases hm)).trans hk⟩
theorem Kept.alloc (B : Nat) (W : World) (o : Obj) : Kept B W (W.alloc o) := .of_grown (World.grownBy_alloc W o none) (fun _ _ e => by cases e)
theorem Kept.put {r : Nat} (o : Obj) (h : r < B) : Kept B W (W.putObj r o) := ⟨by rw [World.putObj_size]; exact Nat.le_refl _, fun k o' hB hk _ => (World.putObj_heap_other (by omega)).trans hk⟩
theorem Kept.plus (h : Plus W W') : Kept B W W' := ⟨h.below.size, fun k _ _ hk _ => (h.below.block k (Array.getElem?_eq_some_iff.1 hk).1).trans hk⟩
theorem Kept.boxed {b : Nat} {t : TypeId} {v : Value} (h : Kept B W W') (hb : Boxed W b t v) (hB : B ≤ b) (ht : (t == 3 || t == 44 || t == 72 || t == 33 || t == 23) = true) : Boxed W' b t v := h.same b _ hB hb ht
end
theorem round_wide {m k : Nat} {P : Program} {l : Nat} {f : FuncId} {tmps : Array Value} {assign body : Code} {w : World} {R : Ending → World → Prop} (h : RoundIn Fence.wide m P l f tmps assign body w R) : RoundIn Fence.wide k P l f tmps assign body w R := ⟨h.1, fun c cs _ => h.2 c cs (room_wide _)⟩
theorem OwnFrom.mono {β : Type} {B C : Nat} {I : β → World → Prop} (h : OwnFrom B I) (hc : B ≤ C) : OwnFrom C I := fun s W W' row hs hg hr => h s W W' row hs hg (fun r e => ⟨Nat.le_trans hc (hr r e).1, (hr r e).2⟩)

/-- An iterator that yields xs, in memory where Fx holds. -/
def SeqO {α : Type} (P : Program) (g : Nat) (lb : Array Value) (encs : α → Array Value) (Fx : World → Prop) (xs : List α) : Prop :=
  ∀ (l : Nat) (J Jx : List α → World → Prop) (W : World), OwnFrom W.heap.size J → OwnFrom W.heap.size Jx → (∀ pre W1, J pre W1 → Fx W1) →
    (∀ pre x rest W1, J pre W1 → xs = pre ++ x :: rest → YieldAt Fence.wide 8 P l (encs x) W1 fun e W' =>
      (e = .returned (.bool true) ∧ J (pre ++ [x]) W' ∧ Kept W.heap.size W1 W') ∨ (e = .returned (.bool false) ∧ Jx (pre ++ [x]) W' ∧ Kept W.heap.size W1 W')) →
    J [] W →
    CallsIn Fence.wide 9 P g (#[.func (.yield l) #[] #[]] ++ lb) W fun e W' => (∃ v, e = .returned v) ∧ (J xs W' ∨ ∃ pre, pre <+: xs ∧ Jx pre W')

/-- How a round's body may be left. -/
def postO {α : Type} (B : Nat) (I : List α → World → Prop) (Ix : Code → List α → World → Prop) (xs : List α) (W : World) : Exit → Act → World → Prop
  | .normal, _, W' => Kept B W W' ∧ I xs W'
  | .ret, _, W' => Kept B W W' ∧ Ix .ret xs W'
  | .exit id, _, W' => Kept B W W' ∧ Ix (.exit id) xs W'
  | .goto t, _, W' => Kept B W W' ∧ Ix (.goto t) xs W'
  | .panic _, _, _ => False
  | .outgrown, _, _ => False

theorem range_o {α : Type} {P : Program} {g : Operand} {ps : Array Tmp} {assign body : Code} {Q : Exit → Act → World → Prop} {a : Act} {w : World} {gf : Nat} {lb : Array Value}
    (hg : a.eval g = .func (.func gf) #[] lb) (eg : ∀ args w, (callFunc gf args).run P w = .ok (.enter gf args) w)
    {encs : α → Array Value} {Fx : World → Prop} {xs : List α} (hseq : SeqO P gf lb encs Fx xs) (hps : ∀ x, (encs x).size = ps.size)
    (I : List α → World → Prop) (Ix : Code → List α → World → Prop) (hI : OwnFrom w.heap.size I) (hIx : ∀ c, OwnFrom w.heap.size (Ix c)) (hFx : ∀ pre W, I pre W → Fx W) (h0 : I [] w) (a₁ : α → Act)
    (hassign : ∀ (l : Nat) (x : α) (W : World) (K : Act → World → Prop), K (a₁ x) W → assign.wpIn (Fence.wide.inRound l) 8 P (Exit.then K (fun _ _ _ => False)) { tmps := (ps.zip (encs x)).foldl (fun t (p, v) => t.setIfInBounds p v) a.tmps, defers := [] } W)
    (hbody : ∀ (l : Nat) (pre : List α) (x : α) (rest : List α) (W : World), w.heap.size ≤ l → I pre W → xs = pre ++ x :: rest → body.wpIn (Fence.wide.inRound l) 8 P (postO w.heap.size I Ix (pre ++ [x]) W) (a₁ x) W)
    (hdone : ∀ (D : Nat) (W : World), w.heap.size ≤ D → I xs W → W.heap[D]? = some (.deferred (some [])) → Q .normal { a with defers := { target := .collected D, args := #[] } :: a.defers } W)
    (hstop : ∀ (D : Nat) (c : Code) (pre : List α) (W : World), w.heap.size ≤ D → pre <+: xs → Ix c pre W → W.heap[D]? = some (.deferred (some [])) → c.wpIn Fence.wide 9 P Q { a with defers := { target := .collected D, args := #[] } :: a.defers } W) :
    (Code.rangeFunc g ps assign body).wpIn Fence.wide 9 P Q a w := by
  refine wpIn_rangeFunc fun fn hfn => ?_
  obtain ⟨Z, hZ⟩ : ∃ Z, Z = w.heap.size := ⟨_, rfl⟩
  obtain ⟨rc, hrc⟩ : ∃ rc : LoopState → Option Code → Loop, rc = fun st pe => { state := st, pending := pe, fn, tmps := a.tmps, params := ps, assign, body, defers := w.heap.size } := ⟨_, rfl⟩
  have hst : ∀ st pe, (rc st pe).state = st := fun _ _ => by rw [hrc]
  have hto : ∀ st st', ({ rc st none with state := st' } : Loop) = rc st' none := fun _ _ => by rw [hrc]
  -- the two blocks of book-keeping
  obtain ⟨V, hV⟩ : ∃ V, (w.alloc (.deferred (some []))).alloc (.loop (rc .ready none)) = V := ⟨_, rfl⟩
  have szV : V.heap.size = Z + 2 := by rw [← hV, hZ]; simp
  have recV : V.heap[Z + 1]? = some (.loop (rc .ready none)) := by
    have q := World.alloc_heap_new (w.alloc (.deferred (some []))) (.loop (rc .ready none))
    rw [World.size_alloc] at q
    rw [← hV, hZ]
    exact q
  have defV : V.heap[Z]? = some (.deferred (some [])) := by
    rw [← hV, hZ]
    exact (Below.heap_alloc _ _ _ (by simp)).trans (World.alloc_heap_new w _)
  -- the caller's invariant with the book-keeping beside it
  obtain ⟨J, hJ⟩ : ∃ J : List α → World → Prop, J = fun pre W => I pre W ∧ W.heap[Z + 1]? = some (.loop (rc .ready none)) ∧ W.heap[Z]? = some (.deferred (some [])) := ⟨_, rfl⟩
  obtain ⟨Jx, hJx⟩ : ∃ Jx : List α → World → Prop, Jx = fun pre W => ∃ c, Ix c pre W ∧ W.heap[Z + 1]? = some (.loop (rc .done (some c))) ∧ W.heap[Z]? = some (.deferred (some [])) := ⟨_, rfl⟩
  have low : ∀ {A A' : World} {row : Option Nat} {k : Nat} {o : Obj}, k < Z + 2 → A.heap[k]? = some o → A.grownBy A' row → (∀ r, row = some r → V.heap.size ≤ r ∧ ∃ o : Obj, A.heap[r]? = some o ∧ o.isCells = false) → A'.heap[k]? = some o := fun hk ho hgr hr =>
    (hgr.block _ (Array.getElem?_eq_some_iff.1 ho).1 (fun e => by have := (hr _ e.symm).1; omega)).trans ho
  have sJ : OwnFrom V.heap.size J := fun s A A' row hs hgr hr => by
    rw [hJ] at hs ⊢
    exact ⟨hI s A A' row hs.1 hgr (fun r e => ⟨by have := (hr r e).1; omega, (hr r e).2⟩), low (by omega) hs.2.1 hgr hr, low (by omega) hs.2.2 hgr hr⟩
  have sJx : OwnFrom V.heap.size Jx := fun s A A' row hs hgr hr => by
    rw [hJx] at hs ⊢
    obtain ⟨c, hc, hl, hd⟩ := hs
    exact ⟨c, hIx c s A A' row hc hgr (fun r e => ⟨by have := (hr r e).1; omega, (hr r e).2⟩), low (by omega) hl hgr hr, low (by omega) hd hgr hr⟩
  have hro : (Fence.wide).round = none := rfl
  rw [hro]
  refine ⟨Z + 1, [{ target := .collected Z, args := #[] }], V, { target := .fn (.func gf) lb, args := #[.func (.yield (Z + 1)) #[] #[]] }, V, gf, #[.func (.yield (Z + 1)) #[] #[]] ++ lb, V, ?_, ?_, fun _ _ => trivial, ?_, fun _ => by omega, ?_⟩
  · rw [← hV, hrc, hZ]; exact run_enterLoop_outer _ _ _ _ _
  · simp only [resolve, hg]
    simp [go_sem]
  · simp [invoke, go_sem, eg]
  refine callsIn_wide.2 (callsIn_wide.1 ((hseq (Z + 1) J Jx V sJ sJx (fun pre W h => by rw [hJ] at h; exact hFx pre W h.1) ?_ ?_).mono ?_))
  · -- a round
    intro pre x rest W hj hx
    rw [hJ] at hj
    obtain ⟨hi, hl, hd⟩ := hj
    have hlt : Z + 1 < W.heap.size := (Array.getElem?_eq_some_iff.1 hl).1
    have hy := run_yield (P := P) (args := encs x) hl (by rw [hrc]; exact hps x)
    rw [hrc] at hy
    refine ⟨fn, _, assign, body, hy, roundIn_of_wpIn hfn (hassign _ x W _ ?_)⟩
    clear hy
    have hbr := run_beginRound (P := P) hl (hst _ _)
    rw [hto] at hbr
    refine ⟨_, hbr, ?_⟩
    have hl2 : (W.putObj (Z + 1) (.loop (rc .busy none))).heap[Z + 1]? = some (.loop (rc .busy none)) := World.putObj_heap_same hlt
    have hd2 : (W.putObj (Z + 1) (.loop (rc .busy none))).heap[Z]? = some (.deferred (some [])) := (World.putObj_heap_other (by omega)).trans hd
    refine wpIn_mono (hbody _ pre x rest _ (by omega) (hI.putObj _ hi (by omega) hl rfl) hx) ?_
    have fin : ∀ (jump : Option Code) (W3 : World), Kept w.heap.size (W.putObj (Z + 1) (.loop (rc .busy none))) W3 →
        (Instr.endRound (Z + 1) jump).run P W3 = .ok (.bool jump.isNone) (W3.putObj (Z + 1) (.loop (rc (if jump.isNone then .ready else .done) jump))) ∧
        W3.heap[Z + 1]? = some (.loop (rc .busy none)) ∧
        (W3.putObj (Z + 1) (.loop (rc (if jump.isNone then .ready else .done) jump))).heap[Z + 1]? = some (.loop (rc (if jump.isNone then .ready else .done) jump)) ∧
        (W3.putObj (Z + 1) (.loop (rc (if jump.isNone then .ready else .done) jump))).heap[Z]? = some (.deferred (some [])) ∧
        Kept V.heap.size W (W3.putObj (Z + 1) (.loop (rc (if jump.isNone then .ready else .done) jump))) := fun jump W3 hk => by
      have hl3 := hk.same _ _ (by omega) hl2 rfl
      have her := run_endRound (P := P) jump hl3
      rw [hrc] at her
      refine ⟨by rw [hrc]; exact her, hl3, World.putObj_heap_same (Array.getElem?_eq_some_iff.1 hl3).1, (World.putObj_heap_other (by omega)).trans (hk.same _ _ (by omega) hd2 rfl), ?_⟩
      exact (Kept.put _ (by omega)).trans ((hk.mono (by omega)).trans (Kept.put _ (by omega)))
    rintro e a3 W3 hp
    cases e with
    | normal =>
      obtain ⟨hk3, hi3⟩ := hp
      obtain ⟨hr, hl3, hl4, hd4, hk4⟩ := fin none W3 hk3
      refine ⟨_, _, hr, .inl ⟨rfl, ?_, hk4⟩⟩
      rw [hJ]
      exact ⟨hI.putObj _ hi3 (by omega) hl3 rfl, hl4, hd4⟩
    | ret =>
      obtain ⟨hk3, hi3⟩ := hp
      obtain ⟨hr, hl3, hl4, hd4, hk4⟩ := fin (some .ret) W3 hk3
      refine ⟨_, _, hr, .inr ⟨rfl, ?_, hk4⟩⟩
      rw [hJx]
      exact ⟨.ret, (hIx _).putObj _ hi3 (by omega) hl3 rfl, hl4, hd4⟩
    | exit id =>
      obtain ⟨hk3, hi3⟩ := hp
      obtain ⟨hr, hl3, hl4, hd4, hk4⟩ := fin (some (.exit id)) W3 hk3
      refine ⟨_, _, hr, .inr ⟨rfl, ?_, hk4⟩⟩
      rw [hJx]
      exact ⟨.exit id, (hIx _).putObj _ hi3 (by omega) hl3 rfl, hl4, hd4⟩
    | goto t =>
      obtain ⟨hk3, hi3⟩ := hp
      obtain ⟨hr, hl3, hl4, hd4, hk4⟩ := fin (some (.goto t)) W3 hk3
      refine ⟨_, _, hr, .inr ⟨rfl, ?_, hk4⟩⟩
      rw [hJx]
      exact ⟨.goto t, (hIx _).putObj _ hi3 (by omega) hl3 rfl, hl4, hd4⟩
    | panic ch => exact hp.elim
    | outgrown => exact hp.elim
  · rw [hJ]
    exact ⟨by rw [← hV]; exact hI.alloc _ (hI.alloc _ h0), recV, defV⟩
  · -- behind the iterator
    rintro e W2 ⟨⟨v, rfl⟩, h⟩
    rw [hJ, hJx] at h
    rcases h with ⟨hi, hl, hd⟩ | ⟨pre, hpre, c, hi, hl, hd⟩
    · have q := run_endLoop (P := P) hl (by rw [hst]; simp)
      exact ⟨_, _, q, by rw [hrc]; exact hdone Z _ (by omega) (hI.putObj _ hi (by omega) hl rfl) ((World.putObj_heap_other (by omega)).trans hd)⟩
    · have q := run_endLoop (P := P) hl (by rw [hst]; simp)
      exact ⟨_, _, q, by rw [hrc]; exact hstop Z c pre _ (by omega) hpre ((hIx c).putObj _ hi (by omega) hl rfl) ((World.putObj_heap_other (by omega)).trans hd)⟩
end Go.Proofs.YtmfdlcicbiincaaDoor
