/- Two events as a row; an event that came in. -/
import Derived.WalkKit
import Derived.WalkSpells
import Derived.WalkLawsBesides
import Derived.Handy
import Derived.Deep.RegionHeld3
import Derived.Deep.DeepCutAuto
import Derived.Deep.QuietTactic
import Derived.BigQuiet
import Derived.Lib.Hide
import Derived.KernelRfl
import Derived.WalkMore
import Derived.Deep.LoopGhost
import Derived.IntWalk
import Derived.ProofKit
import Derived.OpenShut
import Derived.ChangeSlices
import Derived.Carry
import Derived.LaidMore
import Derived.Lay
import Derived.Lib.SmallJoins
import Derived.Test.YtmfdlcicbiincaaDoorE15
import Derived.Test.YtmfdlcicbiincaaDoorRows
namespace Go.Proofs.YtmfdlcicbiincaaDoor
open Go.RowKit

theorem pair_es {g k b a z : Int} {s t : Bool} {R W F : Option Addr} {xs us fs : List Int} {cr cw cf : Nat} {g2 k2 b2 a2 z2 : Int} {s2 t2 : Bool} {R2 W2 F2 : Option Addr} {xs2 us2 fs2 : List Int} {cr2 cw2 cf2 : Nat} (w : World) {d : Nat} (hd : d = w.heap.size) (h1 : EM w R W F xs us fs xs.length cr us.length cw fs.length cf) (h2 : EM w R2 W2 F2 xs2 us2 fs2 xs2.length cr2 us2.length cw2 fs2.length cf2) : Es (w.alloc (.cells #[.int .i64 g, .int .i64 k, .bool s, .bool t, .int .i64 b, .int .i64 a, .int .i64 z, .slice R xs.length cr, .slice W us.length cw, .slice F fs.length cf, .int .i64 g2, .int .i64 k2, .bool s2, .bool t2, .int .i64 b2, .int .i64 a2, .int .i64 z2, .slice R2 xs2.length cr2, .slice W2 us2.length cw2, .slice F2 fs2.length cf2] 42)) (some ⟨d, 0, none⟩) [⟨⟨g, k, s, t, b, a, z, xs, us, fs⟩, R, cr, W, cw, F, cf⟩, ⟨⟨g2, k2, s2, t2, b2, a2, z2, xs2, us2, fs2⟩, R2, cr2, W2, cw2, F2, cf2⟩] 2 2 := by
  subst hd
  refine es_of_own (B := 0) (ys := [⟨⟨g, k, s, t, b, a, z, xs, us, fs⟩, R, cr, W, cw, F, cf⟩, ⟨⟨g2, k2, s2, t2, b2, a2, z2, xs2, us2, fs2⟩, R2, cr2, W2, cw2, F2, cf2⟩]) ⟨rfl, .inr ⟨_, 2, #[.int .i64 g, .int .i64 k, .bool s, .bool t, .int .i64 b, .int .i64 a, .int .i64 z, .slice R xs.length cr, .slice W us.length cw, .slice F fs.length cf, .int .i64 g2, .int .i64 k2, .bool s2, .bool t2, .int .i64 b2, .int .i64 a2, .int .i64 z2, .slice R2 xs2.length cr2, .slice W2 us2.length cw2, .slice F2 fs2.length cf2], rfl, Nat.zero_le _, new_at _ _ rfl, Nat.le_refl _, by unfold maxLen; omega, rfl, rfl⟩⟩ ?_
  intro y hy
  simp only [List.mem_cons, List.not_mem_nil, or_false] at hy
  rcases hy with rfl | rfl
  · exact h1.plus (Plus.alloc (Plus.refl _) _)
  · exact h2.plus (Plus.alloc (Plus.refl _) _)
end Go.Proofs.YtmfdlcicbiincaaDoor
namespace Go.Proofs.YtmfdlcicbiincaaDoor
open Go.ChangeShapes Go.WideShapes Go.ChangeAt Go.RowKit Go.Joins
open Go.WideMaps Go.WideElems

theorem ev_own : ownKnob Tryd.prog.godebug = none := by kernel_rfl
theorem ev_laid : laidOutB Tryd.prog = true := by kernel_rfl
theorem cells3 : Tryd.prog.cellsOf 3 = 1 := by kernel_rfl
theorem cells4 : Tryd.prog.cellsOf 4 = 1 := by kernel_rfl
theorem cells5 : Tryd.prog.cellsOf 5 = 1 := by kernel_rfl
theorem cells43 : Tryd.prog.cellsOf 39 = 1 := by kernel_rfl
theorem cells44 : Tryd.prog.cellsOf 40 = 1 := by kernel_rfl
theorem cells46 : Tryd.prog.cellsOf 42 = 10 := by kernel_rfl
theorem i64_bd {n : Int} (h : (Lit.int .i64 n).wf = true) : I64 n := by
  simpa [Lit.wf, IntKind.min, IntKind.max, IntKind.bits, IntKind.signed, I64] using h
theorem ints_ar {H : Type} {enc : TypeId × Value → H} {W : World} {fuel : Nat} {v : Value} {y : DataW H × List MemPlace} {t e : TypeId} {k : IntKind} (ht : Tryd.prog.underlying t = some (.slice e)) (he : Tryd.prog.underlying e = some (.int k)) (hc1 : Tryd.prog.cellsOf e = 1)
    (h : DataW.trod enc Tryd.prog W 0 (fun _ => true) true fuel t [v] = some y) : ∃ (A : Option Addr) (xs : List Int) (c : Nat), v = .slice A xs.length c ∧ Ar k W A xs xs.length c ∧ ∀ x ∈ xs, (Lit.int k x).wf = true := by
  rcases open_ints ht he hc1 h with ⟨e, _⟩ | ⟨a, len, cap, zs, e, hb, hl, hm, hz, _, hc, hw⟩
  · injection e with e _
    subst e
    exact ⟨none, [], 0, rfl, Ar.nil _ _ (Nat.zero_le _) _, fun x hx => by simp at hx⟩
  · injection e with e _
    subst e
    rw [if_pos rfl] at hz
    have hlen : (zs.take len).length = len := by rw [List.length_take]; omega
    refine ⟨some a, zs.take len, cap, by rw [hlen], ⟨fun h0 => ?_, rfl, by rw [hlen]; exact hl, by unfold maxLen at hm; exact hm⟩, fun x hx => hw x (List.mem_of_mem_take hx)⟩
    rw [hlen] at h0
    have hs := World.cell?_spot (hc 0 (by omega))
    have e0 : a.add 0 = a := by unfold Addr.add; rw [if_pos rfl]
    rw [e0] at hs
    obtain ⟨b, o, sp⟩ := a
    simp only at hs
    subst hs
    refine ⟨b, o, rfl, ?_, fun j hj => ?_⟩
    · have := World.block_lt_of_cell? _ _ (hc 0 (by omega))
      rwa [block_of_add] at this
    · rw [hlen] at hj
      have q := hc j (by omega)
      rw [add_addr] at q
      rw [q, getD_take hj]
theorem by_of {xs : List Int} (h : ∀ x ∈ xs, (Lit.int .u8 x).wf = true) : By xs := fun x hx => by
  have q := h x hx
  simp [Lit.wf, IntKind.min, IntKind.max, IntKind.bits, IntKind.signed] at q
  omega
/-- Ten cells that read as an event. -/
def EvIn (W : World) (l : List Value) : Prop := ∃ (x : ER), l = evL x ∧ ERM W x ∧ I64 x.e.a ∧ I64 x.e.z
set_option maxRecDepth 100000 in
theorem cells_ev {H : Type} {enc : TypeId × Value → H} {W : World} {fuel : Nat} {l : List Value} {y : DataW H × List MemPlace} (hl : l.length = 10) (hf : DataW.trod enc Tryd.prog W 0 (fun _ => true) true fuel 42 l = some y) : EvIn W l := by
  match l, hl with
  | [c0, c1, c2, c3, c4, c5, c6, c7, c8, c9], _ =>
    obtain ⟨ys, n, _, hx, _, hlen, hg⟩ := DataW.trod_struct Tryd.underlying42 hf
    match ys, hlen with
    | [y0, y1, y2, y3, y4, y5, y6, y7, y8, y9], _ =>
      have g0 := hg 0 _ rfl
      have g1 := hg 1 _ rfl
      have g2 := hg 2 _ rfl
      have g3 := hg 3 _ rfl
      have g4 := hg 4 _ rfl
      have g5 := hg 5 _ rfl
      have g6 := hg 6 _ rfl
      have g7 := hg 7 _ rfl
      have g8 := hg 8 _ rfl
      have g9 := hg 9 _ rfl
      simp [cells3, cells4, cells43, cells44] at g0 g1 g2 g3 g4 g5 g6 g7 g8 g9
      obtain ⟨v0, e0, _, w0⟩ := DataW.trod_int Tryd.underlying3 g0
      obtain ⟨v1, e1, _, w1⟩ := DataW.trod_int Tryd.underlying3 g1
      obtain ⟨v2, e2, _⟩ := DataW.trod_bool Tryd.underlying4 g2
      obtain ⟨v3, e3, _⟩ := DataW.trod_bool Tryd.underlying4 g3
      obtain ⟨v4, e4, _, w4⟩ := DataW.trod_int Tryd.underlying3 g4
      obtain ⟨v5, e5, _, w5⟩ := DataW.trod_int Tryd.underlying3 g5
      obtain ⟨v6, e6, _, w6⟩ := DataW.trod_int Tryd.underlying3 g6
      obtain ⟨A7, l7, k7, e7, h7, b7⟩ := ints_ar Tryd.underlying39 Tryd.underlying5 cells5 g7
      obtain ⟨A8, l8, k8, e8, h8, b8⟩ := ints_ar Tryd.underlying39 Tryd.underlying5 cells5 g8
      obtain ⟨A9, l9, k9, e9, h9, _⟩ := ints_ar Tryd.underlying40 Tryd.underlying3 cells3 g9
      simp at e0 e1 e2 e3 e4 e5 e6
      subst e0 e1 e2 e3 e4 e5 e6 e7 e8 e9
      exact ⟨⟨⟨v0, v1, v2, v3, v4, v5, v6, l7, l8, l9⟩, A7, k7, A8, k8, A9, k9⟩, rfl, ⟨h7, h8, h9, by_of b7, by_of b8⟩, i64_bd w5, i64_bd w6⟩
set_option maxRecDepth 100000 in
theorem ev_open {H : Type} {enc : TypeId × Value → H} {W : World} {r : Reach} {b0 : Nat} {v : Value} {d : DataW H} {ps : List MemPlace} (hv : Value.okWide Tryd.prog W r b0 42 v) (h : DataW.Trod enc Tryd.prog W 0 (fun _ => true) true 42 v d ps) :
    ∃ (x : ER), v = .agg (evL x).toArray ∧ ERM W x ∧ I64 x.e.a ∧ I64 x.e.z := by
  obtain ⟨cs, rfl, hsz⟩ := okWide_struct Tryd.underlying42 hv
  obtain ⟨fuel, hf⟩ := h
  rw [cells46] at hsz
  obtain ⟨l⟩ := cs
  obtain ⟨x, e, h1, h2, h3⟩ := cells_ev (l := l) (by simpa using hsz) hf
  subst e
  exact ⟨x, rfl, h1, h2, h3⟩
end Go.Proofs.YtmfdlcicbiincaaDoor
