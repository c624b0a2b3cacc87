/- The bits of two words together: the plain facts. -/
import Derived.Test.YtdmodkmliagiiaaDoorS3
namespace Go.Proofs.YtdmodkmliagiiaaDoor

theorem bit_and_or : ∀ a b : Nat, a < 2 → b < 2 → (a &&& b) + (a ||| b) = a + b
  | 0, 0, _, _ => rfl
  | 0, 1, _, _ => rfl
  | 1, 0, _, _ => rfl
  | 1, 1, _, _ => rfl
  | a + 2, _, h, _ => by omega
  | _, b + 2, _, h => by omega
theorem and_plus_or (n : Nat) : ∀ x y : Nat, x < 2 ^ n → y < 2 ^ n → (x &&& y) + (x ||| y) = x + y := by
  induction n with
  | zero =>
    intro x y hx hy
    obtain rfl : x = 0 := by simpa using hx
    obtain rfl : y = 0 := by simpa using hy
    rfl
  | succ n ih =>
    intro x y hx hy
    have h1 := ih (x / 2) (y / 2) (by rw [Nat.pow_succ] at hx; omega) (by rw [Nat.pow_succ] at hy; omega)
    have a1 : (x &&& y) / 2 = x / 2 &&& y / 2 := Nat.and_div_two_pow (n := 1)
    have a2 : (x ||| y) / 2 = x / 2 ||| y / 2 := Nat.or_div_two_pow (n := 1)
    have a3 : (x &&& y) % 2 = x % 2 &&& y % 2 := Nat.and_mod_two_pow (n := 1)
    have a4 : (x ||| y) % 2 = x % 2 ||| y % 2 := Nat.or_mod_two_pow (n := 1)
    have a5 := bit_and_or (x % 2) (y % 2) (Nat.mod_lt _ (by decide)) (Nat.mod_lt _ (by decide))
    omega
theorem xor_back (x y : Nat) : (x ^^^ y) ^^^ y = x := by simp [Nat.xor_assoc]

/-- The sign's bit counts alike. -/
theorem sg_and_or {x y : Nat} (hx : x < 4294967296) (hy : y < 4294967296) : sg ((x &&& y : Nat) : Int) + sg ((x ||| y : Nat) : Int) = sg (x : Int) + sg (y : Int) := by
  have h := and_plus_or 32 x y hx hy
  have a1 : (x &&& y) / 2147483648 = x / 2147483648 &&& y / 2147483648 := Nat.and_div_two_pow (n := 31)
  have a2 : (x ||| y) / 2147483648 = x / 2147483648 ||| y / 2147483648 := Nat.or_div_two_pow (n := 31)
  have a5 := bit_and_or (x / 2147483648) (y / 2147483648) (by omega) (by omega)
  have b1 := or_lt hx hy
  have b2 := @and_lt x y hx
  unfold sg
  split <;> split <;> split <;> split <;> omega
end Go.Proofs.YtdmodkmliagiiaaDoor
