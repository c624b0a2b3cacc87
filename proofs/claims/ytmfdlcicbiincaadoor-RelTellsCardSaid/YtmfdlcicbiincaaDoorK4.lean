/- TrailingZeros64. -/
import Derived.WalkKit
import Derived.WalkSpells
import Derived.WalkLawsBesides
import Derived.Handy
import Derived.Deep.RegionHeld3
import Derived.Deep.DeepCutAuto
import Derived.Deep.QuietTactic
import Derived.BigQuiet
import Derived.Lib.Hide
import Derived.KernelRfl
import Derived.WalkMore
import Derived.Deep.LoopGhost
import Derived.IntWalk
import Derived.Shelf.Spec.TrailingZeros
import Derived.Test.YtmfdlcicbiincaaDoorProg
import Derived.Test.YtmfdlcicbiincaaDoorK1
import Derived.Test.YtmfdlcicbiincaaDoorW
namespace Go.Proofs.YtmfdlcicbiincaaDoor
open Go.RowKit


/-- The library's table lies in its variable. -/
def Lai (w : World) : Prop := 0 < w.heap.size ∧ ∀ j, j < Lib.deBruijn64tab.length → w.cell? ⟨0, j, none⟩ = some (.int .u8 (Lib.deBruijn64tab.getD j 0 : Nat))
theorem Lai.below {w w' : World} {B : Nat} (h : Lai w) (hb : Below B w w') (h0 : 0 < B) : Lai w' := ⟨Nat.lt_of_lt_of_le h.1 hb.size, fun j hj => (World.cell?_of_block (w := w) (hb.block 0 h0)).trans (h.2 j hj)⟩
theorem Lai.plus {w w' : World} (h : Lai w) (hp : Plus w w') : Lai w' := h.below hp.below h.1

set_option maxRecDepth 100000 in
set_option maxHeartbeats 4000000 in
theorem tz_x (x k idx : Nat) (w : World) (hx0 : ((x : Int) == 0) = false)
    (key : IntKind.u64.wrap (bits BinOp.and IntKind.u64 (x : Int) (IntKind.u64.wrap (-(x : Int))) * 285870213051353865) / 288230376151711744 = (idx : Int))
    (hi : idx < 64) (hk : k < 64) (hcell : w.cell? ⟨0, idx, none⟩ = some (.int .u8 k)) :
    Calls Tryd.prog 86 #[.int .u64 x] w fun e w' => e = .returned (.int .i64 k) ∧ w' = w := by
  go_enter Tryd.func86, Tryd.ntmps86
  go_wp2_with (simp only [key])
  go_returns
  exact ⟨rfl, rfl⟩
theorem tz_c {x : Nat} (w : World) (hx : x < 18446744073709551616) (hx0 : x ≠ 0) (hT : Lai w) : Calls Tryd.prog 86 #[.int .u64 x] w fun e w' => e = .returned (.int .i64 (Lib.ctz 64 x : Nat)) ∧ w' = w := by
  obtain ⟨hlow, hk⟩ := Lib.lowest_bit 64 x hx0 hx
  obtain ⟨hi, htab⟩ := Lib.deBruijn64_at _ hk
  have hcell := hT.2 _ hi
  rw [htab] at hcell
  exact tz_x x _ _ w (by simp; omega) (tz64_key x _ hx hx0 hlow) hi hk hcell
end Go.Proofs.YtmfdlcicbiincaaDoor
