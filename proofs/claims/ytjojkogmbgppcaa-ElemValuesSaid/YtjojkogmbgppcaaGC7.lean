/- Contract: product. -/
import Derived.Deep.OwnRows
import Derived.Test.YtjojkogmbgppcaaGC6
namespace Go.Proofs.Ytjojkogmbgppcaa.Bg
open Go.RowKit


def RowRel (xs ys : List Nat) (g : Nat) (w : World) (s20 : Value) (wr : World) : Prop :=
  ∃ (i : Nat) (os : List Nat), i ≤ xs.length ∧ s20 = .int .i64 i ∧ RowAt xs ys i os ∧ Own wr g os ∧ Below w.heap.size w wr
def LimbRel (xs ys : List Nat) (i g : Nat) (w : World) (s8 s29 : Value) (wr : World) : Prop :=
  ∃ (k : Nat) (os : List Nat) (c : Nat), k ≤ ys.length ∧ s8 = .int .u64 c ∧ s29 = .int .i64 k ∧ LimbAt xs ys i k os c ∧ Own wr g os ∧ Below w.heap.size w wr
theorem LimbRel.step {xs ys : List Nat} {g i k c : Nat} {os : List Nat} {w wr : World} (hx : okL xs) (hy : okL ys) (hi : i < xs.length) (hk : k < ys.length) (hS : LimbAt xs ys i k os c) (hO : Own wr g os) (hB : Below w.heap.size w wr) (hg : w.heap.size ≤ g) :
    LimbRel xs ys i g w (.int .u64 (((lim xs i : Nat) * (lim ys k : Nat) + (lim os (i + k) : Nat) + (c : Nat) : Int) / 4294967296)) (.int .i64 ((k : Int) + 1)) (wr.setCell ⟨g, i + k, none⟩ (.int .u32 (((lim xs i : Nat) * (lim ys k : Nat) + (lim os (i + k) : Nat) + (c : Nat) : Int) % 4294967296))) := by
  have e0 : ((lim xs i : Nat) * (lim ys k : Nat) + (lim os (i + k) : Nat) + (c : Nat) : Int) = ((lim xs i * lim ys k + lim os (i + k) + c : Nat) : Int) := by rw [Int.natCast_add, Int.natCast_add, Int.natCast_mul]
  have e1 : ((lim xs i * lim ys k + lim os (i + k) + c : Nat) : Int) / 4294967296 = (((lim xs i * lim ys k + lim os (i + k) + c) / B : Nat) : Int) := by rw [B_eq]; omega
  have e2 : ((lim xs i * lim ys k + lim os (i + k) + c : Nat) : Int) % 4294967296 = (((lim xs i * lim ys k + lim os (i + k) + c) % B : Nat) : Int) := by rw [B_eq]; omega
  rw [e0, e1, e2]
  exact ⟨k + 1, _, _, by omega, rfl, by rw [show ((k + 1 : Nat) : Int) = (k : Int) + 1 by omega], hS.succ hx hy hi hk, hO.set (by rw [hS.len]; omega) (Nat.mod_lt _ B_pos), hB.setCell hg _⟩

end Go.Proofs.Ytjojkogmbgppcaa.Bg
