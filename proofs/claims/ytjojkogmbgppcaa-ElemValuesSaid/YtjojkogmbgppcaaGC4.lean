/- Contract: sum. -/
import Derived.Deep.OwnRows
import Derived.Test.YtjojkogmbgppcaaGC3
namespace Go.Proofs.Ytjojkogmbgppcaa.Bg
open Go.RowKit


theorem info53 : (Try.prog.info? 66).map (fun i => (i.zero, i.size, i.bytes)) = some (some (.int .u32 0), 1, 4) := by kernel_rfl
/-- A new slice of at most L limbs, with the number V. -/
def NewL (L V : Nat) (w : World) (e : Ending) (w' : World) : Prop :=
  ∃ (g : Nat) (os : List Nat), e = .returned (.slice (some ⟨g, 0, none⟩) os.length os.length) ∧ w.heap.size ≤ g ∧ Own w' g os ∧ val os = V ∧ os.length ≤ L ∧ Below w.heap.size w w'
theorem zeros_cells (n : Nat) : madeCells #[.int .u32 0] n = Array.replicate n (.int .u32 0) := by
  apply Array.ext'
  rw [toList_madeCells_one]
  simp
theorem lim_i {xs : List Nat} (h : okL xs) (k : Nat) : (0 : Int) ≤ (lim xs k : Nat) ∧ ((lim xs k : Nat) : Int) < 4294967296 := by
  have := lim_lt h k
  have e := B_eq
  omega
theorem set_here {os : List Nat} {k n v : Nat} (h : os.length = k) (hk : k < n) : (os ++ List.replicate (n - k) 0).set k v = (os ++ [v]) ++ List.replicate (n - (k + 1)) 0 := by
  have e : n - k = (n - (k + 1)) + 1 := by omega
  rw [e, List.replicate_succ, List.set_append_right _ _ (by omega), h, Nat.sub_self, List.set_cons_zero]
  simp
def SumRel (xs ys : List Nat) (g n : Nat) (w : World) (s6 s18 : Value) (wr : World) : Prop :=
  ∃ (k : Nat) (os : List Nat) (c : Nat), k ≤ n ∧ s6 = .int .u64 c ∧ s18 = .int .i64 k ∧ SumAt xs ys k os c ∧ Own wr g (os ++ List.replicate (n - k) 0) ∧ Below w.heap.size w wr
theorem SumRel.step {xs ys : List Nat} {g n k c : Nat} {os : List Nat} {w wr : World} (hx : okL xs) (hy : okL ys) (hk : k < n) (hS : SumAt xs ys k os c) (hO : Own wr g (os ++ List.replicate (n - k) 0)) (hB : Below w.heap.size w wr) (hg : w.heap.size ≤ g) :
    SumRel xs ys g n w (.int .u64 (((lim xs k : Nat) + (lim ys k : Nat) + (c : Nat) : Int) / 4294967296)) (.int .i64 ((k : Int) + 1)) (wr.setCell ⟨g, k, none⟩ (.int .u32 (((lim xs k : Nat) + (lim ys k : Nat) + (c : Nat) : Int) % 4294967296))) := by
  have e1 : (((lim xs k : Nat) + (lim ys k : Nat) + (c : Nat) : Int) / 4294967296) = (((lim xs k + lim ys k + c) / B : Nat) : Int) := by rw [B_eq]; omega
  have e2 : (((lim xs k : Nat) + (lim ys k : Nat) + (c : Nat) : Int) % 4294967296) = (((lim xs k + lim ys k + c) % B : Nat) : Int) := by rw [B_eq]; omega
  rw [e1, e2]
  refine ⟨k + 1, _, _, by omega, rfl, by rw [show ((k + 1 : Nat) : Int) = (k : Int) + 1 by omega], hS.succ hx hy, ?_, hB.setCell hg _⟩
  rw [← set_here hS.len hk]
  exact hO.set (by rw [List.length_append, List.length_replicate, hS.len]; omega) (Nat.mod_lt _ B_pos)

end Go.Proofs.Ytjojkogmbgppcaa.Bg
