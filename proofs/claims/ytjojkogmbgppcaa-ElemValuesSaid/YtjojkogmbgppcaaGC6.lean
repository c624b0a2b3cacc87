/- Contracts: grow, shrink. -/
import Derived.Test.YtjojkogmbgppcaaGC5
namespace Go.Proofs.Ytjojkogmbgppcaa.Bg
open Go.RowKit


def Grown (g : Nat) (xs : List Nat) (q m : Nat) (w : World) (e : Ending) (w' : World) : Prop :=
  ∃ (os : List Nat) (c : Nat), e = .returned (.int .u32 c) ∧ Own w' g os ∧ val os + B ^ xs.length * c = val xs * q + m ∧ os.length = xs.length ∧ c < B ∧ w.grownBy w' (some g)
def GrowRel (xs : List Nat) (q m g : Nat) (w : World) (s7 s15 : Value) (wr : World) : Prop :=
  ∃ (k : Nat) (os : List Nat) (c : Nat), k ≤ xs.length ∧ s7 = .int .u64 c ∧ s15 = .int .i64 k ∧ GrowAt xs q m k os c ∧ Own wr g os ∧ w.grownBy wr (some g)
theorem mul_i {x q : Nat} (hx : x < B) (hq : q < B) : (0 : Int) ≤ (x : Int) * (q : Int) ∧ (x : Int) * (q : Int) ≤ 18446744065119617025 := by
  have h : x * q ≤ (B - 1) * (B - 1) := Nat.mul_le_mul (by omega) (by omega)
  have e : (B - 1) * (B - 1) = 18446744065119617025 := rfl
  have c : ((x * q : Nat) : Int) = (x : Int) * (q : Int) := Int.natCast_mul x q
  omega
theorem GrowRel.step {xs : List Nat} {q m g k c : Nat} {os : List Nat} {w wr : World} (hx : okL xs) (hq : q < B) (hk : k < xs.length) (hS : GrowAt xs q m k os c) (hO : Own wr g os) (hB : w.grownBy wr (some g)) :
    GrowRel xs q m g w (.int .u64 (((lim xs k : Nat) * (q : Nat) + (c : Nat) : Int) / 4294967296)) (.int .i64 ((k : Int) + 1)) (wr.setCell ⟨g, k, none⟩ (.int .u32 (((lim xs k : Nat) * (q : Nat) + (c : Nat) : Int) % 4294967296))) := by
  have e0 : ((lim xs k : Nat) * (q : Nat) + (c : Nat) : Int) = ((lim xs k * q + c : Nat) : Int) := by rw [Int.natCast_add, Int.natCast_mul]
  have e1 : ((lim xs k * q + c : Nat) : Int) / 4294967296 = (((lim xs k * q + c) / B : Nat) : Int) := by rw [B_eq]; omega
  have e2 : ((lim xs k * q + c : Nat) : Int) % 4294967296 = (((lim xs k * q + c) % B : Nat) : Int) := by rw [B_eq]; omega
  rw [e0, e1, e2]
  exact ⟨k + 1, _, _, by omega, rfl, by rw [show ((k + 1 : Nat) : Int) = (k : Int) + 1 by omega], hS.succ hx hq hk, hO.set (by rw [hS.len]; exact hk) (Nat.mod_lt _ B_pos), grown_trans hB (grown_set _ _ _ _)⟩

theorem or_add (r x : Nat) (hx : x < B) : (r * 4294967296 ||| x) = B * r + x := by
  have h := Nat.two_pow_add_eq_or_of_lt (i := 32) (b := x) (by rw [← B_two]; exact hx) r
  rw [B_two, Nat.mul_comm r]
  exact h.symm
theorem shr_i {r x q : Nat} (hx : x < B) (hr : r < q) (hq : q < B) :
    bits BinOp.or IntKind.u64 ((r : Int) * 4294967296) (x : Int) = ((B * r + x : Nat) : Int) ∧ (0 : Int) ≤ ((B * r + x : Nat) : Int) / (q : Int) ∧ ((B * r + x : Nat) : Int) / (q : Int) < 4294967296 ∧ (0 : Int) ≤ ((B * r + x : Nat) : Int) % (q : Int) ∧ ((B * r + x : Nat) : Int) % (q : Int) < 4294967296 := by
  have eB := B_eq
  have q0 : 0 < q := by omega
  refine ⟨?_, ?_, ?_, ?_, ?_⟩
  · have e : (r : Int) * 4294967296 = ((r * 4294967296 : Nat) : Int) := by omega
    rw [e, u64_or_nat _ _ (by omega) (by omega), or_add r x hx]
  · rw [← Int.natCast_ediv]; exact Int.natCast_nonneg _
  · rw [← Int.natCast_ediv]
    have : (B * r + x) / q < B := by
      rw [Nat.div_lt_iff_lt_mul q0]
      have h2 : B * (r + 1) ≤ B * q := Nat.mul_le_mul_left _ hr
      rw [Nat.mul_succ] at h2
      omega
    omega
  · rw [← Int.natCast_emod]; exact Int.natCast_nonneg _
  · rw [← Int.natCast_emod]
    have := Nat.mod_lt (B * r + x) q0
    omega
def Shrunk (g : Nat) (xs : List Nat) (q : Nat) (w : World) (e : Ending) (w' : World) : Prop :=
  ∃ (os : List Nat), e = .returned (.int .u32 (val xs % q : Nat)) ∧ Own w' g os ∧ val os = val xs / q ∧ os.length = xs.length ∧ w.grownBy w' (some g)
def ShrinkRel (xs : List Nat) (q g : Nat) (w : World) (s5 s6 : Value) (wr : World) : Prop :=
  ∃ (k : Nat) (os : List Nat) (r : Nat), k ≤ xs.length ∧ s5 = .int .u64 r ∧ s6 = .int .i64 (k - 1 : Int) ∧ ShrinkAt xs q k os r ∧ Own wr g os ∧ w.grownBy wr (some g)
theorem ShrinkRel.step {xs : List Nat} {q g k r st : Nat} {os : List Nat} {w wr : World} (hx : okL xs) (hq : q < B) (hk : k < xs.length) (hst : B * r + lim xs k = st) (hS : ShrinkAt xs q (k + 1) os r) (hO : Own wr g os) (hB : w.grownBy wr (some g)) :
    ShrinkRel xs q g w (.int .u64 ((st : Int) % (q : Int))) (.int .i64 ((k : Int) - 1)) (wr.setCell ⟨g, k, none⟩ (.int .u32 ((st : Int) / (q : Int)))).drew := by
  subst hst
  have hS' := hS.succ hx (Nat.le_of_lt hq) hk
  rw [← Int.natCast_ediv, ← Int.natCast_emod]
  have hv : (B * r + lim xs k) / q < B := by
    have q0 : 0 < q := Nat.lt_of_le_of_lt (Nat.zero_le _) hS.rest
    rw [Nat.div_lt_iff_lt_mul q0]
    have h2 : B * (r + 1) ≤ B * q := Nat.mul_le_mul_left _ hS.rest
    have h3 := lim_lt hx k
    rw [Nat.mul_succ] at h2
    omega
  exact ⟨k, _, _, by omega, rfl, rfl, hS', (hO.set (by rw [hS.len]; exact hk) hv).drew, grown_drew (grown_trans hB (grown_set _ _ _ _))⟩

end Go.Proofs.Ytjojkogmbgppcaa.Bg
