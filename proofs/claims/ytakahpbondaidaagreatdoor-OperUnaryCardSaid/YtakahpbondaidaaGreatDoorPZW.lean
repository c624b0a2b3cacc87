/- What came in, in memory: the listed variables, bytes, units. -/
import Derived.ProofKit
import Derived.OpenShut
import Derived.ChangeSlices
import Derived.Carry
import Derived.Lib.SmallJoins
import Derived.Lib.LaidU8T
import Derived.LaidLaws
import Derived.MakeChecks
import Derived.Lib.LaidTab
import Derived.Test.YtakahpbondaidaaGreatDoorPZD
import Derived.Test.YtakahpbondaidaaGreatDoorRows
import Derived.Test.YtakahpbondaidaaGreatDoorPZI
namespace Go.Proofs.YtakahpbondaidaaGreatDoor
open Go.RowKit

open Go.ChangeShapes Go.WideShapes Go.ChangeAt Go.Joins
open Go.WideMaps Go.WideElems
open Go.ChangeMaps (open_string shut_string)
open Go.Shelf Go.Lib

theorem text_own : ownKnob Tryz.prog.godebug = none := by kernel_rfl
theorem text_laid : laidOutB Tryz.prog = true := by kernel_rfl
theorem cells87 : Tryz.prog.cellsOf 87 = 1 := by kernel_rfl
/-- The library's types and variables, as the laid contracts number them. -/
def uren : Ren := ⟨fun n => n, fun | 5 => 5 | 119 => 208 | 138 => 210 | 139 => 211 | n => n, fun | 3 => 0 | 4 => 1 | n => n⟩
theorem u8types : U8Types Tryz.prog uren := { t5 := Tryz.underlying5, t119 := Tryz.underlying208, t138 := by kernel_rfl, t139 := Tryz.underlying211 }
theorem u8extra : U8Extra Tryz.prog uren := { n3 := by kernel_rfl, n4 := by kernel_rfl, y3 := by kernel_rfl, y4 := by kernel_rfl, c5 := by kernel_rfl, c119 := by kernel_rfl, c138 := by kernel_rfl }
theorem hv_of {W : World} {n : String} {cs : Array Value} {v : Value} (h : W.var? Tryz.prog n = some cs) (e : cs.toList = [v]) : W.var? Tryz.prog n = some #[v] := by
  rw [h]
  congr 1
  apply Array.ext'
  rw [e]
theorem iface_var {W : World} {n : String} {name : String} {d : DataW Unit} {g : Nat} (hg : Tryz.prog.globalNamed n = some g) (hty : (Tryz.prog.globals[g]?).map (·.type) = some 174) (h : VarReads Tryz.prog W n (.iface name d)) : ∃ tp p, W.var? Tryz.prog n = some #[.iface tp p] := by
  obtain ⟨g', t', cs, fuel, p, hg', ht', hvar, hd⟩ := h
  obtain rfl := Option.some.inj (hg.symm.trans hg')
  obtain rfl := Option.some.inj (hty.symm.trans ht')
  obtain ⟨_, u, v, e, _⟩ := iface_of_trod Tryz.underlying174 hd
  exact ⟨u, v, hv_of hvar e⟩
theorem lai_of {W : World} (h : laidMetH Tryz.prog Rows.operUnaryRow.laid W) : Lai W := by
  rw [MakeChecks.laidMetH_plain _ _ _ (by kernel_rfl)] at h
  obtain ⟨ps, hv, _⟩ := h
  have R := LaidVars_reads hv
  refine ⟨iface_var (g := 4) (by kernel_rfl) (by kernel_rfl) (R "strconv.ErrSyntax" _ (List.mem_of_getElem? (i := 5) rfl)), iface_var (g := 5) (by kernel_rfl) (by kernel_rfl) (R "strconv.ErrRange" _ (List.mem_of_getElem? (i := 4) rfl)), ?_, ?_⟩
  · have h2 : VarReads Tryz.prog W powName (tabData .u64 Lib.pow10Tab) := R powName _ (List.mem_of_getElem? (i := 2) (by kernel_rfl))
    obtain ⟨g, t, cs, fuel, p, hg, ht, hvar, hd⟩ := h2
    obtain rfl := Option.some.inj ((show Tryz.prog.globalNamed powName = some 3 by kernel_rfl).symm.trans hg)
    obtain rfl := Option.some.inj ((show (Tryz.prog.globals[3]?).map (·.type) = some 213 by kernel_rfl).symm.trans ht)
    unfold TabIs
    rw [hvar, ← cells_of_tab Tryz.underlying213 Tryz.underlying112 (by kernel_rfl) (by kernel_rfl) hd]
  · refine utf8Tabs_of_readsT u8types u8extra (R _ _ (List.mem_of_getElem? (i := 6) (by kernel_rfl))) (R _ _ (List.mem_of_getElem? (i := 3) (by kernel_rfl)))
theorem ints_ar {H : Type} {enc : TypeId × Value → H} {W : World} {fuel : Nat} {v : Value} {y : DataW H × List MemPlace} {t e : TypeId} {k : IntKind} {K : Nat} (ht : Tryz.prog.underlying t = some (.slice e)) (he : Tryz.prog.underlying e = some (.int k)) (hc1 : Tryz.prog.cellsOf e = 1) (hk : ∀ z, (Lit.int k z).wf = true → 0 ≤ z ∧ z < K)
    (h : DataW.trod enc Tryz.prog W 0 (fun _ => true) true fuel t [v] = some y) : ∃ (A : Option Addr) (n c : Nat) (xs : List Nat), v = .slice A n c ∧ Ar k K W A xs n c := by
  rcases open_ints ht he hc1 h with ⟨e, _⟩ | ⟨a, len, cap, zs, e, hb, hl, hm, hz, _, hc, hw⟩
  · injection e with e _
    subst e
    exact ⟨none, 0, 0, [], rfl, Rd.nil, rfl, Nat.le_refl _, by omega, fun x hx => by simp at hx⟩
  · injection e with e _
    subst e
    rw [if_pos rfl] at hz
    have bd : ∀ z ∈ zs, 0 ≤ z ∧ z < K := fun z hz => hk z (hw z hz)
    have hlen : ((zs.take len).map Int.toNat).length = len := by rw [List.length_map, List.length_take]; omega
    refine ⟨some a, len, cap, (zs.take len).map Int.toNat, rfl, fun h0 => ?_, hlen.symm, hl, by unfold maxLen at hm; exact hm, fun x hx => ?_⟩
    · rw [hlen] at h0
      have hs := World.cell?_spot (hc 0 (by omega))
      have e0 : a.add 0 = a := by unfold Addr.add; rw [if_pos rfl]
      rw [e0] at hs
      obtain ⟨b, o, sp⟩ := a
      simp only at hs
      subst hs
      refine ⟨b, o, rfl, ?_, fun j hj => ?_⟩
      · have := World.block_lt_of_cell? _ _ (hc 0 (by omega))
        rwa [block_of_add] at this
      · rw [hlen] at hj
        have q := hc j (by omega)
        rw [add_addr] at q
        rw [q]
        have hj1 : j < zs.length := by omega
        have e1 : zs.getD j 0 = zs[j] := by rw [List.getD_eq_getElem?_getD, List.getElem?_eq_getElem hj1]; rfl
        have e2 : ((zs.take len).map Int.toNat).getD j 0 = zs[j].toNat := by
          rw [List.getD_eq_getElem?_getD, List.getElem?_map, List.getElem?_take, if_pos hj, List.getElem?_eq_getElem hj1]
          rfl
        rw [e1, e2]
        have := bd _ (List.getElem_mem hj1)
        have e3 : ((zs[j].toNat : Nat) : Int) = zs[j] := by omega
        rw [e3]
    · obtain ⟨z, hz1, rfl⟩ := List.mem_map.1 hx
      have := bd z (List.mem_of_mem_take hz1)
      omega
theorem units_ar {H : Type} {enc : TypeId × Value → H} {W : World} {fuel : Nat} {v : Value} {y : DataW H × List MemPlace} (h : DataW.trod enc Tryz.prog W 0 (fun _ => true) true fuel 27 [v] = some y) : ∃ (A : Option Addr) (n c : Nat) (xs : List Nat), v = .slice A n c ∧ Ar .u16 65536 W A xs n c :=
  ints_ar Tryz.underlying27 Tryz.underlying87 cells87 (fun z h => by simp [Lit.wf, IntKind.min, IntKind.max, IntKind.bits, IntKind.signed] at h; omega) h
end Go.Proofs.YtakahpbondaidaaGreatDoor
namespace Go.Proofs.YtakahpbondaidaaGreatDoor
open Go.ChangeShapes Go.WideShapes Go.ChangeAt Go.RowKit Go.Joins
open Go.WideMaps Go.WideElems
open Go.ChangeMaps (open_string shut_string)

theorem cells23 : Tryz.prog.cellsOf 23 = 2 := by kernel_rfl
theorem cells26 : Tryz.prog.cellsOf 26 = 2 := by kernel_rfl
theorem cells29 : Tryz.prog.cellsOf 29 = 7 := by kernel_rfl
theorem cells24 : Tryz.prog.cellsOf 24 = 1 := by kernel_rfl
theorem cells3 : Tryz.prog.cellsOf 3 = 1 := by kernel_rfl
theorem cells4 : Tryz.prog.cellsOf 4 = 1 := by kernel_rfl
theorem cells69 : Tryz.prog.cellsOf 69 = 1 := by kernel_rfl
theorem limbs_ar {H : Type} {enc : TypeId × Value → H} {W : World} {fuel : Nat} {v : Value} {y : DataW H × List MemPlace} (h : DataW.trod enc Tryz.prog W 0 (fun _ => true) true fuel 24 [v] = some y) : ∃ (A : Option Addr) (n c : Nat) (xs : List Nat), v = .slice A n c ∧ Ar .u32 4294967296 W A xs n c :=
  ints_ar Tryz.underlying24 Tryz.underlying69 cells69 (fun z hz => by
    simp [Lit.wf, IntKind.min, IntKind.max, IntKind.bits, IntKind.signed] at hz
    omega) h
theorem i64_bd {n : Int} (h : (Lit.int .i64 n).wf = true) : -9223372036854775808 ≤ n ∧ n ≤ 9223372036854775807 := by
  simpa [Lit.wf, IntKind.min, IntKind.max, IntKind.bits, IntKind.signed] using h
set_option maxRecDepth 100000 in
theorem val_open {H : Type} {enc : TypeId × Value → H} {W : World} {r : Reach} {b0 : Nat} {v : Value} {d : DataW H} {ps : List MemPlace} (hv : Value.okWide Tryz.prog W r b0 29 v) (h : DataW.Trod enc Tryz.prog W 0 (fun _ => true) true 29 v d ps) :
    ∃ (k p q : Int) (g : Bool) (A C : Option Addr) (xs us : List Nat) (n c m d : Nat) (r : Int), v = (Value.agg #[.int .i64 k, .int .i64 p, .int .i64 q, .bool g, .slice A n c, .slice C m d, .int .i64 r]) ∧ VM W A xs n c C us m d ∧ (-9223372036854775808 ≤ k ∧ k ≤ 9223372036854775807) ∧ (-9223372036854775808 ≤ p ∧ p ≤ 9223372036854775807) ∧ (-9223372036854775808 ≤ q ∧ q ≤ 9223372036854775807) ∧ (-9223372036854775808 ≤ r ∧ r ≤ 9223372036854775807) := by
  obtain ⟨cs, rfl, hsz⟩ := okWide_struct Tryz.underlying29 hv
  obtain ⟨fuel, hf⟩ := h
  rw [cells29] at hsz
  obtain ⟨l⟩ := cs
  match l, hsz with
  | [c0, c1, c2, c3, c4, c5, c6], _ =>
    obtain ⟨ys, n, _, hx, _, hlen, hg⟩ := DataW.trod_struct Tryz.underlying29 hf
    match ys, hlen with
    | [y0, y1, y2, y3, y4], _ =>
      have g0 := hg 0 _ rfl
      have g1 := hg 1 _ rfl
      have g2 := hg 2 _ rfl
      have g3 := hg 3 _ rfl
      have g4 := hg 4 _ rfl
      simp only [Value.cells] at g0 g1 g2 g3 g4
      simp at g0 g1 g2 g3 g4
      obtain ⟨k, e0, _, w0⟩ := DataW.trod_int Tryz.underlying3 g0
      obtain ⟨z1, n1, _, _, _, l1, h1⟩ := DataW.trod_struct Tryz.underlying23 g1
      have a0 := h1 0 _ rfl
      have a1 := h1 1 _ rfl
      match z1, l1 with
      | [u0, u1], _ =>
        simp [cells3] at a0 a1
        obtain ⟨p, e1, _, w1⟩ := DataW.trod_int Tryz.underlying3 a0
        obtain ⟨q, e2, _, w2⟩ := DataW.trod_int Tryz.underlying3 a1
        obtain ⟨z2, n2, _, _, _, l2, h2⟩ := DataW.trod_struct Tryz.underlying26 g2
        have b0 := h2 0 _ rfl
        have b1 := h2 1 _ rfl
        match z2, l2 with
        | [v0, v1], _ =>
          simp [cells4, cells24] at b0 b1
          obtain ⟨g, e3, _⟩ := DataW.trod_bool Tryz.underlying4 b0
          obtain ⟨A, nn, c, xs, e4, hA⟩ := limbs_ar b1
          obtain ⟨C, m, d, us, e5, hC⟩ := units_ar g3
          obtain ⟨r, e6, _, w3⟩ := DataW.trod_int Tryz.underlying3 g4
          simp [cells3] at e0 e6
          simp [cells23] at e1 e2
          simp [cells26] at e3
          subst e0 e1 e2 e3 e4 e5 e6
          exact ⟨k, p, q, g, A, C, xs, us, nn, c, m, d, r, rfl, ⟨hA, hC⟩, i64_bd w0, i64_bd w1, i64_bd w2, i64_bd w3⟩
end Go.Proofs.YtakahpbondaidaaGreatDoor
