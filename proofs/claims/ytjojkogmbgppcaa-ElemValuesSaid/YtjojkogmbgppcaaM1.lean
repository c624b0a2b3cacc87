/- Words' bits and bytes: the plain facts. -/
import Derived.Test.YtjojkogmbgppcaaC6
namespace Go.Proofs.Ytjojkogmbgppcaa
open Go.RowKit

theorem bit_and_or : ∀ a b : Nat, a < 2 → b < 2 → (a &&& b) + (a ||| b) = a + b
  | 0, 0, _, _ => rfl
  | 0, 1, _, _ => rfl
  | 1, 0, _, _ => rfl
  | 1, 1, _, _ => rfl
  | a + 2, _, h, _ => by omega
  | _, b + 2, _, h => by omega
theorem and_plus_or (n : Nat) : ∀ x y : Nat, x < 2 ^ n → y < 2 ^ n → (x &&& y) + (x ||| y) = x + y := by
  induction n with
  | zero =>
    intro x y hx hy
    obtain rfl : x = 0 := by simpa using hx
    obtain rfl : y = 0 := by simpa using hy
    rfl
  | succ n ih =>
    intro x y hx hy
    have h1 := ih (x / 2) (y / 2) (by rw [Nat.pow_succ] at hx; omega) (by rw [Nat.pow_succ] at hy; omega)
    have a1 : (x &&& y) / 2 = x / 2 &&& y / 2 := Nat.and_div_two_pow (n := 1)
    have a2 : (x ||| y) / 2 = x / 2 ||| y / 2 := Nat.or_div_two_pow (n := 1)
    have a3 : (x &&& y) % 2 = x % 2 &&& y % 2 := Nat.and_mod_two_pow (n := 1)
    have a4 : (x ||| y) % 2 = x % 2 ||| y % 2 := Nat.or_mod_two_pow (n := 1)
    have a5 := bit_and_or (x % 2) (y % 2) (Nat.mod_lt _ (by decide)) (Nat.mod_lt _ (by decide))
    omega
theorem xor_back (x y : Nat) : (x ^^^ y) ^^^ y = x := by simp [Nat.xor_assoc]


theorem bit_and_xor : ∀ a b : Nat, a < 2 → b < 2 → (a &&& b) + (a ^^^ b) = a ||| b
  | 0, 0, _, _ => rfl
  | 0, 1, _, _ => rfl
  | 1, 0, _, _ => rfl
  | 1, 1, _, _ => rfl
  | a + 2, _, h, _ => by omega
  | _, b + 2, _, h => by omega
theorem and_plus_xor (n : Nat) : ∀ x y : Nat, x < 2 ^ n → y < 2 ^ n → (x &&& y) + (x ^^^ y) = x ||| y := by
  induction n with
  | zero =>
    intro x y hx hy
    obtain rfl : x = 0 := by simpa using hx
    obtain rfl : y = 0 := by simpa using hy
    rfl
  | succ n ih =>
    intro x y hx hy
    have h1 := ih (x / 2) (y / 2) (by rw [Nat.pow_succ] at hx; omega) (by rw [Nat.pow_succ] at hy; omega)
    have a1 : (x &&& y) / 2 = x / 2 &&& y / 2 := Nat.and_div_two_pow (n := 1)
    have a2 : (x ||| y) / 2 = x / 2 ||| y / 2 := Nat.or_div_two_pow (n := 1)
    have a3 : (x &&& y) % 2 = x % 2 &&& y % 2 := Nat.and_mod_two_pow (n := 1)
    have a4 : (x ||| y) % 2 = x % 2 ||| y % 2 := Nat.or_mod_two_pow (n := 1)
    have a6 : (x ^^^ y) / 2 = x / 2 ^^^ y / 2 := Nat.xor_div_two_pow (n := 1)
    have a7 : (x ^^^ y) % 2 = x % 2 ^^^ y % 2 := Nat.xor_mod_two_pow (n := 1)
    have a5 := bit_and_xor (x % 2) (y % 2) (Nat.mod_lt _ (by decide)) (Nat.mod_lt _ (by decide))
    omega
theorem bs_succ (n x : Nat) : bs (n + 1) x = bs n x ++ [x / 2 ^ (8 * n) % 256] := by
  unfold bs
  rw [List.range_succ, List.map_append]
  rfl
theorem wd_bs (n x : Nat) : wd (bs n x) = msk n x := by
  unfold msk
  induction n with
  | zero => simp [bs, wd, Nat.mod_one]
  | succ n ih =>
    rw [bs_succ, wd_app, ih, bs_len, Nat.mul_add 8, Nat.pow_add, Nat.mod_mul, Nat.mul_comm (x / 2 ^ (8 * n) % 256)]
theorem bs_B (n x : Nat) : ∀ y ∈ bs n x, y < 256 := fun y hy => by
  unfold bs at hy
  obtain ⟨i, _, rfl⟩ := List.mem_map.1 hy
  exact Nat.mod_lt _ (by decide)
theorem msk_0 (x : Nat) : msk 0 x = 0 := Nat.mod_one x
theorem msk_1 (x : Nat) : msk 1 x = x % 256 := rfl
theorem msk_2 (x : Nat) : msk 2 x = x % 65536 := rfl
theorem msk_4 (x : Nat) : msk 4 x = x % 4294967296 := rfl
theorem msk_8 (x : Nat) : msk 8 x = x % 18446744073709551616 := rfl
theorem msk_both {s a b : Nat} (hs : s = 0 ∨ s = 1 ∨ s = 2 ∨ s = 4 ∨ s = 8) (h : (a &&& b) + (a ||| b) = a + b) : msk s ((msk s (a &&& b) + msk s (a ||| b)) % 18446744073709551616) = msk s ((a + b) % 18446744073709551616) := by
  rcases hs with rfl | rfl | rfl | rfl | rfl
  · simp only [msk_0]
  · simp only [msk_1]; omega
  · simp only [msk_2]; omega
  · simp only [msk_4]; omega
  · simp only [msk_8]; omega
theorem msk_less {s A O X : Nat} (hs : s = 0 ∨ s = 1 ∨ s = 2 ∨ s = 4 ∨ s = 8) (h : A + X = O) : msk s ((msk s O + 18446744073709551616 - msk s A) % 18446744073709551616) = msk s X := by
  rcases hs with rfl | rfl | rfl | rfl | rfl
  · simp only [msk_0]
  · simp only [msk_1]; omega
  · simp only [msk_2]; omega
  · simp only [msk_4]; omega
  · simp only [msk_8]; omega

/-! Contracts with their answers named. -/
def BsN (k : Int) (x : Nat) (xs : List Nat) (s : Nat) : Prop := bs (szK k) x = xs ∧ xs.length = s ∧ x < 18446744073709551616
theorem bytes_n {k : Int} {x s : Nat} {xs : List Nat} (h : Hid (BsN k x xs s)) (w : World) : Calls Try.prog 20 #[.int .i64 k, .int .u64 (x : Int)] w fun e w' => ∃ (A : Option Addr) (c : Nat), e = .returned (.slice A s c) ∧ Ar .u8 256 w' A xs s c ∧ Plus w w' := by
  obtain ⟨rfl, rfl, h3⟩ := h.out
  refine (bytes_c k x w h3).mono ?_
  rintro e w' ⟨A, c, rfl, q1, q2, q3, q4⟩
  exact ⟨A, c, rfl, ⟨q3, rfl, q1, q2, bs_B _ _⟩, q4⟩
def WdN (k : Int) (xs : List Nat) (r : Nat) (ok : Bool) : Prop := wdW k xs = r ∧ wdB k xs = ok
theorem word_n {k : Int} {A : Option Addr} {xs : List Nat} {n c r : Nat} {ok : Bool} (h : Hid (WdN k xs r ok)) (w : World) (ha : Hid (Ar .u8 256 w A xs n c)) : Calls Try.prog 14 #[.int .i64 k, .slice A n c] w fun e w' => e = .returned (.tuple #[.int .u64 (r : Int), .bool ok]) ∧ Plus w w' := by
  obtain ⟨rfl, rfl⟩ := h.out
  exact word_c k A xs n c w ha
def BgN (k : Int) (b : Bool) : Prop := bigK k = b
theorem isBig_n {k : Int} {b : Bool} (h : Hid (BgN k b)) (w : World) : Calls Try.prog 17 #[.int .i64 k] w fun e w' => e = .returned (.bool b) ∧ Plus w w' := by
  obtain rfl := h.out
  exact isBig_c k w
def TnN (k : Int) (x : Nat) (n : Int) : Prop := toN k x = n
theorem toNum_n {k : Int} {x : Nat} {n : Int} (h : Hid (TnN k x n)) (w : World) : Calls Try.prog 28 #[.int .i64 k, .int .u64 (x : Int)] w fun e w' => e = .returned (.agg #[.int .i64 0, .int .i64 n]) ∧ Plus w w' := by
  obtain rfl := h.out
  exact toNum_c k x w
end Go.Proofs.Ytjojkogmbgppcaa
