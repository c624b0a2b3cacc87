/- Rows of events in memory. -/
import Derived.WalkKit
import Derived.WalkSpells
import Derived.WalkLawsBesides
import Derived.Handy
import Derived.Deep.RegionHeld3
import Derived.Deep.DeepCutAuto
import Derived.Deep.QuietTactic
import Derived.BigQuiet
import Derived.Lib.Hide
import Derived.KernelRfl
import Derived.WalkMore
import Derived.Deep.LoopGhost
import Derived.IntWalk
import Derived.Test.YtmfdlcicbiincaaDoorE4
namespace Go.Proofs.YtmfdlcicbiincaaDoor
open Go.RowKit

/-- An event and where its lists lie. -/
structure ER where
  e : Ev
  R : Option Addr
  cr : Nat
  W : Option Addr
  cw : Nat
  F : Option Addr
  cf : Nat
deriving Inhabited
def evL (x : ER) : List Value := [.int .i64 x.e.g, .int .i64 x.e.k, .bool x.e.s, .bool x.e.t, .int .i64 x.e.b, .int .i64 x.e.a, .int .i64 x.e.z, .slice x.R x.e.r.length x.cr, .slice x.W x.e.w.length x.cw, .slice x.F x.e.f.length x.cf]
def ERM (w : World) (x : ER) : Prop := EM w x.R x.W x.F x.e.r x.e.w x.e.f x.e.r.length x.cr x.e.w.length x.cw x.e.f.length x.cf
def EsR (w : World) (A : Option Addr) (rs : List ER) : Prop := 0 < rs.length → ∃ g o, A = some ⟨g, o, none⟩ ∧ g < w.heap.size ∧ ∀ i j v, i < rs.length → (evL (rs.getD i default))[j]? = some v → w.cell? ⟨g, o + i * 10 + j, none⟩ = some v
/-- The slice at A reads as the events rs. -/
structure Es (w : World) (A : Option Addr) (rs : List ER) (n c : Nat) : Prop where
  rd : EsR w A rs
  len : n = rs.length
  cap : n ≤ c
  max : c ≤ 9223372036854775807
  mem : ∀ x ∈ rs, ERM w x
section
variable {w w' : World} {A : Option Addr} {rs : List ER} {n c : Nat}
theorem EsR.keep (h : EsR w A rs) (hs : w.heap.size ≤ w'.heap.size) (hk : ∀ b, A.map (·.block) = some b → b < w.heap.size → w'.heap[b]? = w.heap[b]?) : EsR w' A rs := fun h0 => by
  obtain ⟨g, o, rfl, hg, hc⟩ := h h0
  have k := hk g rfl hg
  exact ⟨g, o, rfl, by omega, fun i j v hi hv => (World.cell?_of_block (w := w) k).trans (hc i j v hi hv)⟩
theorem EsR.plus (h : EsR w A rs) (hp : Plus w w') : EsR w' A rs := h.keep hp.below.size fun b _ hk => hp.below.block b hk
theorem ERM.plus {x : ER} (h : ERM w x) (hp : Plus w w') : ERM w' x := EM.plus h hp
theorem Es.plus (h : Es w A rs n c) (hp : Plus w w') : Es w' A rs n c := ⟨h.rd.plus hp, h.len, h.cap, h.max, fun x hx => (h.mem x hx).plus hp⟩
theorem EsR.take (h : EsR w A rs) (m : Nat) : EsR w A (rs.take m) := fun h0 => by
  rw [List.length_take] at h0
  obtain ⟨g, o, e, hg, hc⟩ := h (by omega)
  refine ⟨g, o, e, hg, fun i j v hi hv => hc i j v (by rw [List.length_take] at hi; omega) ?_⟩
  rw [List.length_take] at hi
  rw [List.getD_eq_getElem?_getD, List.getElem?_take, if_pos (by omega), ← List.getD_eq_getElem?_getD] at hv
  exact hv
theorem Es.take (h : Es w A rs n c) (m : Nat) (hm : m ≤ n) : Es w A (rs.take m) m c := ⟨h.rd.take m, by rw [List.length_take, ← h.len]; omega, Nat.le_trans hm h.cap, h.max, fun x hx => h.mem x (List.mem_of_mem_take hx)⟩
theorem Es.nil (w : World) (c : Nat) (hc : c ≤ 9223372036854775807) (A : Option Addr) : Es w A [] 0 c := ⟨fun h => absurd h (by simp), rfl, Nat.zero_le _, hc, fun _ h => absurd h (by simp)⟩
/-- An event's cells, one by one. -/
theorem ev_cells {g o i : Nat} {x : ER} (h : ∀ j v, (evL x)[j]? = some v → w.cell? ⟨g, o + i * 10 + j, none⟩ = some v) :
    w.cell? ⟨g, o + i * 10, none⟩ = some (.int .i64 x.e.g) ∧ w.cell? ⟨g, o + i * 10 + 1, none⟩ = some (.int .i64 x.e.k) ∧ w.cell? ⟨g, o + i * 10 + 2, none⟩ = some (.bool x.e.s) ∧ w.cell? ⟨g, o + i * 10 + 3, none⟩ = some (.bool x.e.t) ∧ w.cell? ⟨g, o + i * 10 + 4, none⟩ = some (.int .i64 x.e.b) ∧ w.cell? ⟨g, o + i * 10 + 5, none⟩ = some (.int .i64 x.e.a) ∧ w.cell? ⟨g, o + i * 10 + 6, none⟩ = some (.int .i64 x.e.z) ∧ w.cell? ⟨g, o + i * 10 + 7, none⟩ = some (.slice x.R x.e.r.length x.cr) ∧ w.cell? ⟨g, o + i * 10 + 8, none⟩ = some (.slice x.W x.e.w.length x.cw) ∧ w.cell? ⟨g, o + i * 10 + 9, none⟩ = some (.slice x.F x.e.f.length x.cf) :=
  ⟨h 0 _ rfl, h 1 _ rfl, h 2 _ rfl, h 3 _ rfl, h 4 _ rfl, h 5 _ rfl, h 6 _ rfl, h 7 _ rfl, h 8 _ rfl, h 9 _ rfl⟩
theorem Es.at_ (h : Es w A rs n c) {i : Nat} (hi : i < n) : ∃ (g o : Nat) (x : ER), A = some ⟨g, o, none⟩ ∧ rs.getD i default = x ∧ x ∈ rs ∧ ERM w x ∧ (w.cell? ⟨g, o + i * 10, none⟩ = some (.int .i64 x.e.g) ∧ w.cell? ⟨g, o + i * 10 + 1, none⟩ = some (.int .i64 x.e.k) ∧ w.cell? ⟨g, o + i * 10 + 2, none⟩ = some (.bool x.e.s) ∧ w.cell? ⟨g, o + i * 10 + 3, none⟩ = some (.bool x.e.t) ∧ w.cell? ⟨g, o + i * 10 + 4, none⟩ = some (.int .i64 x.e.b) ∧ w.cell? ⟨g, o + i * 10 + 5, none⟩ = some (.int .i64 x.e.a) ∧ w.cell? ⟨g, o + i * 10 + 6, none⟩ = some (.int .i64 x.e.z) ∧ w.cell? ⟨g, o + i * 10 + 7, none⟩ = some (.slice x.R x.e.r.length x.cr) ∧ w.cell? ⟨g, o + i * 10 + 8, none⟩ = some (.slice x.W x.e.w.length x.cw) ∧ w.cell? ⟨g, o + i * 10 + 9, none⟩ = some (.slice x.F x.e.f.length x.cf)) := by
  have hl : i < rs.length := by rw [← h.len]; exact hi
  obtain ⟨g, o, e, hg, hc⟩ := h.rd (by omega)
  have hm : rs.getD i default ∈ rs := by
    rw [List.getD_eq_getElem?_getD, List.getElem?_eq_getElem hl]
    exact List.getElem_mem hl
  exact ⟨g, o, _, e, rfl, hm, h.mem _ hm, ev_cells fun j v hv => hc i j v hl hv⟩
end
end Go.Proofs.YtmfdlcicbiincaaDoor
