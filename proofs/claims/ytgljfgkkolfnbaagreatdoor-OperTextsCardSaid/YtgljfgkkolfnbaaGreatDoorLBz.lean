/- A box that holds a value. -/
import Derived.Test.YtgljfgkkolfnbaaGreatDoorV22z
import Derived.Test.YtgljfgkkolfnbaaGreatDoorOA
namespace Go.Proofs.YtgljfgkkolfnbaaGreatDoor
open Go.RowKit

/-- The box b holds the valid value x. -/
def BoxV (W : World) (b : Nat) (x : JV) : Prop := ∃ (k p q : Int) (g : Bool) (A C : Option Addr) (n c m d : Nat) (r : Int), (W.cell? ⟨b, 0, none⟩ = some (.int .i64 k) ∧ W.cell? ⟨b, 1, none⟩ = some (.int .i64 p) ∧ W.cell? ⟨b, 2, none⟩ = some (.int .i64 q) ∧ W.cell? ⟨b, 3, none⟩ = some (.bool g) ∧ W.cell? ⟨b, 4, none⟩ = some (.slice A n c) ∧ W.cell? ⟨b, 5, none⟩ = some (.slice C m d) ∧ W.cell? ⟨b, 6, none⟩ = some (.int .i64 r)) ∧ NV W (Value.agg #[.int .i64 k, .int .i64 p, .int .i64 q, .bool g, .slice A n c, .slice C m d, .int .i64 r]) x
theorem BoxV.plus {W W' : World} {b : Nat} {x : JV} (h : BoxV W b x) (hp : Plus W W') : BoxV W' b x := by
  obtain ⟨k, p, q, g, A, C, n, c, m, d, r, ⟨h0, h1, h2, h3, h4, h5, h6⟩, hn⟩ := h
  exact ⟨k, p, q, g, A, C, n, c, m, d, r, ⟨cell_plus h0 hp, cell_plus h1 hp, cell_plus h2 hp, cell_plus h3 hp, cell_plus h4 hp, cell_plus h5 hp, cell_plus h6 hp⟩, hn.plus hp⟩
theorem ar32_offp {K : Nat} {W1 W2 : World} {A : Option Addr} {xs : List Nat} {n c : Nat} (h : Ar .u32 K W1 A xs n c) (o : Offp W1 W2) : Ar .u32 K W2 A xs n c := ⟨Rd.offp (.inr rfl) h.rd o, h.len, h.cap, h.max, h.bd⟩
theorem BoxV.lt {W : World} {b : Nat} {x : JV} (h : BoxV W b x) : b < W.heap.size := by
  obtain ⟨k, p, q, g, A, C, n, c, m, d, r, ⟨h0, _⟩, _⟩ := h
  exact World.block_lt_of_cell? _ _ h0
end Go.Proofs.YtgljfgkkolfnbaaGreatDoor
