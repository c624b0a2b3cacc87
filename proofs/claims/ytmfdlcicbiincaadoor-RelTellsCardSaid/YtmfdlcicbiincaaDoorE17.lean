/- Heads: the plain facts; Head's contract at a log; a log that came in. -/
import Derived.WalkKit
import Derived.WalkSpells
import Derived.WalkLawsBesides
import Derived.Handy
import Derived.Deep.RegionHeld3
import Derived.Deep.DeepCutAuto
import Derived.Deep.QuietTactic
import Derived.BigQuiet
import Derived.Lib.Hide
import Derived.KernelRfl
import Derived.WalkMore
import Derived.Deep.LoopGhost
import Derived.IntWalk
import Derived.ProofKit
import Derived.OpenShut
import Derived.ChangeSlices
import Derived.Carry
import Derived.LaidMore
import Derived.Lay
import Derived.Lib.SmallJoins
import Derived.Deep.Slices
import Derived.Test.YtmfdlcicbiincaaDoorE16
namespace Go.Proofs.YtmfdlcicbiincaaDoor
open Go.RowKit

def SmL (l : List Ev) : Prop := ∀ x ∈ l, x.r.length ≤ 20000 ∧ x.w.length ≤ 20000 ∧ x.f.length ≤ 20000
theorem sml_of {rs : List ER} (h : ∀ x ∈ rs, SmE x) : SmL (rs.map (·.e)) := fun x hx => by
  obtain ⟨y, hy, rfl⟩ := List.mem_map.1 hx
  exact h y hy
theorem sml_mem {rs : List ER} (h : SmL (rs.map (·.e))) : ∀ x ∈ rs, x.e.r.length ≤ 1048576 ∧ x.e.w.length ≤ 1048576 ∧ x.e.f.length ≤ 1048576 := fun x hx => by
  have q := h x.e (List.mem_map.2 ⟨x, hx, rfl⟩)
  omega
theorem sml_take {l : List Ev} (h : SmL l) (n : Nat) : SmL (l.take n) := fun x hx => h x (List.mem_of_mem_take hx)
/-- A log in memory: n events l, m pairs ps. -/
structure Lg (w : World) (l : List Ev) (ps : List Pr) (A : Option Addr) (n c : Nat) (B : Option Addr) (m d : Nat) : Prop where
  ev : ∃ rs : List ER, rs.map (·.e) = l ∧ Es w A rs n c
  pa : Pa w B ps m d
theorem Lg.plus {w w' : World} {l : List Ev} {ps : List Pr} {A B : Option Addr} {n c m d : Nat} (h : Lg w l ps A n c B m d) (hp : Plus w w') : Lg w' l ps A n c B m d := by
  obtain ⟨rs, e, he⟩ := h.ev
  exact ⟨⟨rs, e, he.plus hp⟩, h.pa.plus hp⟩
theorem Lg.len {w : World} {l : List Ev} {ps : List Pr} {A B : Option Addr} {n c m d : Nat} (h : Lg w l ps A n c B m d) : n = l.length ∧ m = ps.length := by
  obtain ⟨rs, rfl, he⟩ := h.ev
  exact ⟨by rw [List.length_map]; exact he.len, h.pa.len⟩
/-- What Head returns: a log. -/
def RetHs (l : List Ev) (qs : List Pr) (n m : Nat) (w : World) (e : Ending) (w' : World) : Prop := ∃ (V : Option Addr) (c : Nat) (V2 : Option Addr) (c2 : Nat), e = .returned (.agg #[.slice V n c, .slice V2 m c2]) ∧ Lg w' l qs V n c V2 m c2 ∧ Plus w w'
theorem head_s {l l2 : List Ev} {ps qs : List Pr} {A B : Option Addr} {n c m d N M : Nat} {z : Int} (w : World) (H : Lg w l ps A n c B m d) (HS : Hid (SmL l)) (H2 : Hid (l.take (hdN z l.length) = l2 ∧ ps.filter (amB (hdN z l.length)) = qs ∧ N = l2.length ∧ M = qs.length)) (hl : n ≤ 100000) (hl2 : m ≤ 100000) : Calls Tryd.prog 38 #[.agg #[.slice A n c, .slice B m d], .int .i64 z] w (RetHs l2 qs N M w) := by
  obtain ⟨h1, h2, h3, h4⟩ := H2.out
  have hln := H.len.1
  obtain ⟨rs, rfl, he⟩ := H.ev
  refine (head_n w he H.pa (sml_mem HS.out) hl hl2).mono ?_
  rintro e w' ⟨V, c1, ys, V2, c2, rfl, ho, hy, hq, hm, hp⟩
  rw [← hln] at h1 h2
  have e1 : ys.map (·.e) = l2 := by rw [hm, h1]
  have e2 : N = ys.length := by rw [h3, ← e1, List.length_map]
  rw [h2] at hq
  subst e2
  rw [h2, ← h4]
  rw [← h4] at hq
  subst h4
  exact ⟨V, c1, V2, c2, rfl, ⟨⟨ys, e1, es_of_own ho fun y h => (hy y h).erm⟩, pa_of_own hq⟩, hp⟩
theorem may_s {l : List Ev} {ps : List Pr} {A B : Option Addr} {n c m d : Nat} {r : Bool} (w : World) (H : Hid (MayR l ps r)) (h : Lg w l ps A n c B m d) : Calls Tryd.prog 20 #[.agg #[.slice A n c, .slice B m d]] w fun e w' => e = .returned (.bool r) ∧ Plus w w' := by
  obtain ⟨rs, rfl, he⟩ := h.ev
  exact may_r w H he h.pa
theorem few_s {l : List Ev} {ps : List Pr} {A B : Option Addr} {n c m d : Nat} {most : Int} (w : World) (h : Lg w l ps A n c B m d) (h0 : 0 ≤ most) (h1 : most ≤ 1000) : Calls Tryd.prog 11 #[.agg #[.slice A n c, .slice B m d], .int .i64 most] w fun e w' => ∃ b : Bool, e = .returned (.bool b) ∧ (b = true → (n : Int) ≤ most ∧ (m : Int) ≤ most ∧ SmL l) ∧ Plus w w' := by
  obtain ⟨rs, rfl, he⟩ := h.ev
  refine (few_c w he h0 h1).mono ?_
  rintro e w' ⟨b, h1, h2, h3⟩
  exact ⟨b, h1, fun hb => by
    obtain ⟨q1, q2, q3⟩ := h2 hb
    exact ⟨by rw [he.len]; exact q1, q2, sml_of q3⟩, h3⟩
-- plain facts
theorem okEv_take {l : List Ev} {N n : Nat} (hn : n < N) (_ : N ≤ l.length) : okEv (l.take N) n ↔ okEv l n := by
  have e : (l.take N).getD n default = l.getD n default := by
    rw [List.getD_eq_getElem?_getD, List.getD_eq_getElem?_getD, List.getElem?_take, if_pos hn]
  unfold okEv
  rw [e, List.take_take, Nat.min_eq_left (by omega)]
theorem acc_take {l : List Ev} {N : Nat} (hN : N ≤ l.length) (h : Acc l) : Acc (l.take N) := fun n hn => by
  rw [List.length_take] at hn
  exact (okEv_take (by omega) hN).2 (h n (by omega))
theorem amB_pair {n : Nat} {p : Pr} (h : pairOk n p) : amB n p = true := h.2
theorem may_filter {l : List Ev} {ps : List Pr} (h : MayP l ps) : ps.filter (amB l.length) = ps := by
  rw [List.filter_eq_self]
  intro p hp
  obtain ⟨i, hi, e⟩ := List.getElem_of_mem hp
  have q := h.2.2.1 i hi
  rw [List.getD_eq_getElem?_getD, List.getElem?_eq_getElem hi] at q
  rw [← e]
  exact q.2
theorem amB_le {N M : Nat} {p : Pr} (h : amB M p = true) (hl : M ≤ N) : amB N p = true := by
  unfold amB amongM at h ⊢
  simp at h ⊢
  omega
theorem filter_filter' (ps : List Pr) {N M : Nat} (h : M ≤ N) : (ps.filter (amB N)).filter (amB M) = ps.filter (amB M) := by
  rw [List.filter_filter]
  congr 1
  funext p
  cases e : amB M p
  · rfl
  · rw [amB_le e h]; rfl
theorem may_head {l : List Ev} {ps : List Pr} (h : MayP l ps) {N : Nat} (hN : N ≤ l.length) : MayP (l.take N) (ps.filter (amB N)) := by
  obtain ⟨h1, h2, h3, h4⟩ := h
  refine ⟨by rw [List.length_take]; omega, Nat.le_trans (List.length_filter_le _ _) h2, fun i hi => ?_, acc_take hN h4⟩
  rw [List.length_take, Nat.min_eq_left hN, List.getD_eq_getElem?_getD, List.getElem?_eq_getElem hi]
  simp only [Option.getD_some]
  have hm := List.getElem_mem hi
  obtain ⟨hm1, hm2⟩ := List.mem_filter.1 hm
  obtain ⟨j, hj, e⟩ := List.getElem_of_mem hm1
  have q := h3 j hj
  rw [List.getD_eq_getElem?_getD, List.getElem?_eq_getElem hj] at q
  simp only [Option.getD_some] at q
  rw [← e] at hm2 ⊢
  exact ⟨q.1, hm2⟩
end Go.Proofs.YtmfdlcicbiincaaDoor
namespace Go.Proofs.YtmfdlcicbiincaaDoor
open Go.ChangeShapes Go.WideShapes Go.ChangeAt Go.RowKit Go.Joins
open Go.WideMaps Go.WideElems

theorem cells22 : Tryd.prog.cellsOf 22 = 1 := by kernel_rfl
theorem cells23 : Tryd.prog.cellsOf 23 = 1 := by kernel_rfl
theorem cells25 : Tryd.prog.cellsOf 25 = 2 := by kernel_rfl
theorem cells40 : Tryd.prog.cellsOf 43 = 2 := by kernel_rfl
theorem choose_list {α : Type} [Inhabited α] {P : Nat → α → Prop} : ∀ (n : Nat), (∀ i, i < n → ∃ x, P i x) → ∃ xs : List α, xs.length = n ∧ ∀ i, i < n → P i (xs.getD i default)
  | 0, _ => ⟨[], rfl, fun i h => absurd h (by omega)⟩
  | n + 1, h => by
    obtain ⟨xs, hl, hx⟩ := choose_list n (fun i hi => h i (by omega))
    obtain ⟨y, hy⟩ := h n (by omega)
    refine ⟨xs ++ [y], by rw [List.length_append, hl]; rfl, fun i hi => ?_⟩
    by_cases e : i = n
    · subst e
      rw [List.getD_eq_getElem?_getD, List.getElem?_append_right (by omega), hl, Nat.sub_self]
      exact hy
    · rw [List.getD_eq_getElem?_getD, List.getElem?_append_left (by omega), ← List.getD_eq_getElem?_getD]
      exact hx i (by omega)
theorem es_open {H : Type} {enc : TypeId × Value → H} {W : World} {fuel : Nat} {v : Value} {y : DataW H × List MemPlace} (h : DataW.trod enc Tryd.prog W 0 (fun _ => true) true fuel 22 [v] = some y) : ∃ (A : Option Addr) (rs : List ER) (n c : Nat), v = .slice A n c ∧ Es W A rs n c := by
  rcases Go.Deep.open_slice Tryd.underlying22 h with ⟨e, _⟩ | ⟨a, len, cap, m, n, D, Pl, e, hb, hl, hm, hmm, hx, hi⟩
  · injection e with e _
    subst e
    exact ⟨none, [], 0, 0, rfl, Es.nil _ _ (Nat.zero_le _) _⟩
  · injection e with e _
    subst e
    rw [if_pos rfl] at hmm
    subst hmm
    have hk : ∀ i, i < len → ∃ x : ER, ERM W x ∧ ∀ j v, (evL x)[j]? = some v → W.cell? ((a.add (i * 10)).add j) = some v := fun i hil => by
      obtain ⟨cs, hc, ht⟩ := hi i (by omega)
      rw [cells46] at hc
      obtain ⟨_, hcl, hat⟩ := World.cells?_some hc
      obtain ⟨x, e, h1, _, _⟩ := cells_ev hcl ht
      refine ⟨x, h1, fun j v hv => ?_⟩
      have hj : j < 10 := (List.getElem?_eq_some_iff.1 hv).1
      rw [hat j hj, e]
      exact hv
    obtain ⟨rs, hrl, hrs⟩ := choose_list len hk
    refine ⟨some a, rs, len, m, rfl, fun h0 => ?_, hrl.symm, hl, by unfold maxLen at hm; exact hm, fun x hx => ?_⟩
    · rw [hrl] at h0
      have h00 := (hrs 0 h0).2 0 _ rfl
      have hs := World.cell?_spot h00
      have z0 : ∀ a : Addr, a.add 0 = a := fun a => by unfold Addr.add; rw [if_pos rfl]
      rw [Nat.zero_mul, z0, z0] at hs h00
      obtain ⟨b, o, sp⟩ := a
      simp only at hs
      subst hs
      refine ⟨b, o, rfl, World.block_lt_of_cell? _ _ h00, fun i j v hil hv => ?_⟩
      have q := (hrs i (by omega)).2 j v hv
      rw [add_addr, add_addr] at q
      exact q
    · obtain ⟨i, hi2, e⟩ := List.getElem_of_mem hx
      have q := (hrs i (by omega)).1
      rw [List.getD_eq_getElem?_getD, List.getElem?_eq_getElem hi2] at q
      rw [← e]
      exact q
theorem pa_open {H : Type} {enc : TypeId × Value → H} {W : World} {fuel : Nat} {v : Value} {y : DataW H × List MemPlace} (h : DataW.trod enc Tryd.prog W 0 (fun _ => true) true fuel 23 [v] = some y) : ∃ (A : Option Addr) (ps : List Pr) (n c : Nat), v = .slice A n c ∧ Pa W A ps n c := by
  rcases Go.Deep.open_slice Tryd.underlying23 h with ⟨e, _⟩ | ⟨a, len, cap, m, n, D, Pl, e, hb, hl, hm, hmm, hx, hi⟩
  · injection e with e _
    subst e
    exact ⟨none, [], 0, 0, rfl, Pa.nil _ _ (Nat.zero_le _) _⟩
  · injection e with e _
    subst e
    rw [if_pos rfl] at hmm
    subst hmm
    have hk : ∀ i, i < len → ∃ x : Pr, W.cell? ((a.add (i * 2)).add 0) = some (.int .i64 x.1) ∧ W.cell? ((a.add (i * 2)).add 1) = some (.int .i64 x.2) := fun i hil => by
      obtain ⟨cs, hc, ht⟩ := hi i (by omega)
      rw [cells40] at hc
      obtain ⟨_, hcl, hat⟩ := World.cells?_some hc
      match cs, hcl with
      | [c0, c1], _ =>
        obtain ⟨ys, k, _, hx, _, hlen, hg⟩ := DataW.trod_array Tryd.underlying43 ht
        match ys, hlen with
        | [y0, y1], _ =>
          have g0 := hg 0 (by omega)
          have g1 := hg 1 (by omega)
          simp [cells3] at g0 g1
          obtain ⟨v0, e0, _⟩ := DataW.trod_int Tryd.underlying3 g0
          obtain ⟨v1, e1, _⟩ := DataW.trod_int Tryd.underlying3 g1
          simp at e0 e1
          subst e0 e1
          exact ⟨(v0, v1), hat 0 (by omega), hat 1 (by omega)⟩
    obtain ⟨ps, hrl, hrs⟩ := choose_list (α := Pr) len hk
    refine ⟨some a, ps, len, m, rfl, fun h0 => ?_, hrl.symm, hl, by unfold maxLen at hm; exact hm⟩
    rw [hrl] at h0
    have h00 := (hrs 0 h0).1
    have hs := World.cell?_spot h00
    have z0 : ∀ a : Addr, a.add 0 = a := fun a => by unfold Addr.add; rw [if_pos rfl]
    rw [Nat.zero_mul, z0, z0] at hs h00
    obtain ⟨b, o, sp⟩ := a
    simp only at hs
    subst hs
    refine ⟨b, o, rfl, World.block_lt_of_cell? _ _ h00, fun i hil => ?_⟩
    have q := hrs i (by omega)
    rw [add_addr, add_addr, add_addr] at q
    exact q
set_option maxRecDepth 100000 in
theorem log_open {H : Type} {enc : TypeId × Value → H} {W : World} {r : Reach} {b0 : Nat} {v : Value} {d : DataW H} {pl : List MemPlace} (hv : Value.okWide Tryd.prog W r b0 25 v) (h : DataW.Trod enc Tryd.prog W 0 (fun _ => true) true 25 v d pl) :
    ∃ (l : List Ev) (ps : List Pr) (A : Option Addr) (n c : Nat) (B : Option Addr) (m k : Nat), v = .agg #[.slice A n c, .slice B m k] ∧ Lg W l ps A n c B m k := by
  obtain ⟨cs, rfl, hsz⟩ := okWide_struct Tryd.underlying25 hv
  obtain ⟨fuel, hf⟩ := h
  rw [cells25] at hsz
  obtain ⟨l⟩ := cs
  match l, hsz with
  | [c0, c1], _ =>
    obtain ⟨ys, n, _, hx, _, hlen, hg⟩ := DataW.trod_struct Tryd.underlying25 hf
    match ys, hlen with
    | [y0, y1], _ =>
      have g0 := hg 0 _ rfl
      have g1 := hg 1 _ rfl
      simp only [Value.cells] at g0 g1
      simp [cells22, cells23] at g0 g1
      obtain ⟨A, rs, n, c, e0, h0⟩ := es_open g0
      obtain ⟨B, ps, m, k, e1, h1⟩ := pa_open g1
      subst e0 e1
      exact ⟨rs.map (·.e), ps, A, n, c, B, m, k, rfl, ⟨rs, rfl, h0⟩, h1⟩
end Go.Proofs.YtmfdlcicbiincaaDoor
