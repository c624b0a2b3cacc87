/- A value that came in. -/
import Derived.Test.YtgljfgkkolfnbaaGreatDoorFRz
import Derived.Test.YtgljfgkkolfnbaaGreatDoorUB
namespace Go.Proofs.YtgljfgkkolfnbaaGreatDoor
open Go.ChangeShapes Go.WideShapes Go.ChangeAt Go.RowKit Go.Joins
open Go.WideMaps Go.WideElems
open Go.ChangeMaps (open_string shut_string)

theorem cells23 : Tryz.prog.cellsOf 23 = 2 := by kernel_rfl
theorem cells26 : Tryz.prog.cellsOf 26 = 2 := by kernel_rfl
theorem cells29 : Tryz.prog.cellsOf 29 = 7 := by kernel_rfl
theorem cells27 : Tryz.prog.cellsOf 27 = 1 := by kernel_rfl
theorem cells24 : Tryz.prog.cellsOf 24 = 1 := by kernel_rfl
theorem cells3 : Tryz.prog.cellsOf 3 = 1 := by kernel_rfl
theorem cells4 : Tryz.prog.cellsOf 4 = 1 := by kernel_rfl
theorem cells56 : Tryz.prog.cellsOf 56 = 1 := by kernel_rfl
theorem limbs_ar {H : Type} {enc : TypeId × Value → H} {W : World} {fuel : Nat} {v : Value} {y : DataW H × List MemPlace} (h : DataW.trod enc Tryz.prog W 0 (fun _ => true) true fuel 24 [v] = some y) : ∃ (A : Option Addr) (n c : Nat) (xs : List Nat), v = .slice A n c ∧ Ar .u32 4294967296 W A xs n c :=
  ints_ar Tryz.underlying24 Tryz.underlying56 cells56 (fun z hz => by
    simp [Lit.wf, IntKind.min, IntKind.max, IntKind.bits, IntKind.signed] at hz
    omega) h
theorem i64_bd {n : Int} (h : (Lit.int .i64 n).wf = true) : -9223372036854775808 ≤ n ∧ n ≤ 9223372036854775807 := by
  simpa [Lit.wf, IntKind.min, IntKind.max, IntKind.bits, IntKind.signed] using h
set_option maxRecDepth 100000 in
theorem val_open {H : Type} {enc : TypeId × Value → H} {W : World} {r : Reach} {b0 : Nat} {v : Value} {d : DataW H} {ps : List MemPlace} (hv : Value.okWide Tryz.prog W r b0 29 v) (h : DataW.Trod enc Tryz.prog W 0 (fun _ => true) true 29 v d ps) :
    ∃ (k p q : Int) (g : Bool) (A C : Option Addr) (xs us : List Nat) (n c m d : Nat) (r : Int), v = (Value.agg #[.int .i64 k, .int .i64 p, .int .i64 q, .bool g, .slice A n c, .slice C m d, .int .i64 r]) ∧ VM W A xs n c C us m d ∧ (-9223372036854775808 ≤ k ∧ k ≤ 9223372036854775807) ∧ (-9223372036854775808 ≤ p ∧ p ≤ 9223372036854775807) ∧ (-9223372036854775808 ≤ q ∧ q ≤ 9223372036854775807) ∧ (-9223372036854775808 ≤ r ∧ r ≤ 9223372036854775807) := by
  obtain ⟨cs, rfl, hsz⟩ := okWide_struct Tryz.underlying29 hv
  obtain ⟨fuel, hf⟩ := h
  rw [cells29] at hsz
  obtain ⟨l⟩ := cs
  match l, hsz with
  | [c0, c1, c2, c3, c4, c5, c6], _ =>
    obtain ⟨ys, n, _, hx, _, hlen, hg⟩ := DataW.trod_struct Tryz.underlying29 hf
    match ys, hlen with
    | [y0, y1, y2, y3, y4], _ =>
      have g0 := hg 0 _ rfl
      have g1 := hg 1 _ rfl
      have g2 := hg 2 _ rfl
      have g3 := hg 3 _ rfl
      have g4 := hg 4 _ rfl
      simp only [Value.cells] at g0 g1 g2 g3 g4
      simp at g0 g1 g2 g3 g4
      obtain ⟨k, e0, _, w0⟩ := DataW.trod_int Tryz.underlying3 g0
      obtain ⟨z1, n1, _, _, _, l1, h1⟩ := DataW.trod_struct Tryz.underlying23 g1
      have a0 := h1 0 _ rfl
      have a1 := h1 1 _ rfl
      match z1, l1 with
      | [u0, u1], _ =>
        simp [cells3] at a0 a1
        obtain ⟨p, e1, _, w1⟩ := DataW.trod_int Tryz.underlying3 a0
        obtain ⟨q, e2, _, w2⟩ := DataW.trod_int Tryz.underlying3 a1
        obtain ⟨z2, n2, _, _, _, l2, h2⟩ := DataW.trod_struct Tryz.underlying26 g2
        have b0 := h2 0 _ rfl
        have b1 := h2 1 _ rfl
        match z2, l2 with
        | [v0, v1], _ =>
          simp [cells4, cells24] at b0 b1
          obtain ⟨g, e3, _⟩ := DataW.trod_bool Tryz.underlying4 b0
          obtain ⟨A, nn, c, xs, e4, hA⟩ := limbs_ar b1
          obtain ⟨C, m, d, us, e5, hC⟩ := units_ar g3
          obtain ⟨r, e6, _, w3⟩ := DataW.trod_int Tryz.underlying3 g4
          simp [cells3] at e0 e6
          simp [cells23] at e1 e2
          simp [cells26] at e3
          subst e0 e1 e2 e3 e4 e5 e6
          exact ⟨k, p, q, g, A, C, xs, us, nn, c, m, d, r, rfl, ⟨hA, hC⟩, i64_bd w0, i64_bd w1, i64_bd w2, i64_bd w3⟩
end Go.Proofs.YtgljfgkkolfnbaaGreatDoor
