/- What the chapter's examples fix. -/
import Derived.Test.YtaigkjffglbknaaDoorB1
namespace Go.Proofs.YtaigkjffglbknaaDoor
open Go.RowKit

theorem ex1 : tokM (nats ⟨#[97, 43, 43, 43, 98]⟩) = ⟨[{ tk0 with k := 1, t := ⟨#[97]⟩, s := [], a := 0, nl := false }, { tk0 with k := 5, t := ⟨#[43, 43]⟩, s := [], a := 1, nl := false }, { tk0 with k := 5, t := ⟨#[43]⟩, s := [], a := 3, nl := false }, { tk0 with k := 1, t := ⟨#[98]⟩, s := [], a := 4, nl := false }, { tk0 with k := 0, t := ⟨#[]⟩, s := [], a := 5, nl := false }], 0, 0⟩ := by kernel_rfl
theorem ex2 : tokM (nats ⟨#[49, 110, 32, 48, 48, 55]⟩) = ⟨[], 3, 5⟩ := by kernel_rfl
theorem ex3 : tokM (nats ⟨#[49, 46, 53]⟩) = ⟨[], 0, 6⟩ := by kernel_rfl
theorem ex4 : tokM (nats ⟨#[97, 32, 47, 42, 32, 10, 32, 42, 47, 32, 98]⟩) = ⟨[{ tk0 with k := 1, t := ⟨#[97]⟩, s := [], a := 0, nl := false }, { tk0 with k := 1, t := ⟨#[98]⟩, s := [], a := 10, nl := true }, { tk0 with k := 0, t := ⟨#[]⟩, s := [], a := 11, nl := false }], 0, 0⟩ := by kernel_rfl
theorem ex5 : tokM (nats ⟨#[34, 92, 117, 48, 48, 101, 57, 34]⟩) = ⟨[{ tk0 with k := 4, t := ⟨#[]⟩, s := [233], a := 0, nl := false }, { tk0 with k := 0, t := ⟨#[]⟩, s := [], a := 8, nl := false }], 0, 0⟩ := by kernel_rfl
theorem ar_lit (W : World) (v : Nat) (z : Int) (hz : z = v) (hv : v < 65536) (g : Nat) (hg : g = W.heap.size) (t : TypeId) : Ar .u16 65536 (W.alloc (.cells #[.int .u16 z] t)) (some ⟨g, 0, none⟩) [v] 1 1 := by
  subst hg hz
  refine ⟨fun _ => ⟨_, _, rfl, by simp, fun j hj => ?_⟩, rfl, Nat.le_refl _, by decide, fun x hx => by simp at hx; omega⟩
  have : j = 0 := by simpa using hj
  subst this
  rw [World.cell?_alloc_at _ _ _ _ rfl]
  rfl
end Go.Proofs.YtaigkjffglbknaaDoor
