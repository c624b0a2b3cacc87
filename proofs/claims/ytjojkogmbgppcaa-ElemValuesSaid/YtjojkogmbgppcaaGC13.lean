/- Contracts: Cmp, Same, Neg. -/
import Derived.Test.YtjojkogmbgppcaaGC12
namespace Go.Proofs.Ytjojkogmbgppcaa.Bg
open Go.RowKit


/-- An argument: its limbs lie in memory. -/
structure Arg (w : World) (A : Option Addr) (xs : List Nat) (n c : Nat) : Prop where
  lim : Lim w A xs
  len : n = xs.length
  few : xs.length ≤ 1048576
  cap : xs.length ≤ c
  max : c ≤ 9223372036854775807
theorem Arg.plus {w w' : World} {A : Option Addr} {xs : List Nat} {n c : Nat} (h : Arg w A xs n c) (hp : Plus w w') : Arg w' A xs n c := ⟨h.lim.plus hp, h.len, h.few, h.cap, h.max⟩
theorem Lim.box22 {w : World} {x y : More} {A : Option Addr} {xs : List Nat} {o1 o2 p1 p2 : Obj} (h : Lim (_root_.Go.Proofs.Ytjojkogmbgppcaa.plus (_root_.Go.Proofs.Ytjojkogmbgppcaa.plus ((w.alloc o1).alloc o2) x) y) A xs) (h1 : isBox o1) (h2 : isBox o2) : Lim (_root_.Go.Proofs.Ytjojkogmbgppcaa.plus (_root_.Go.Proofs.Ytjojkogmbgppcaa.plus ((w.alloc p1).alloc p2) x) y) A xs := by
  rw [plus_add] at h ⊢
  exact h.box2 h1 h2
theorem Lim.box33 {w : World} {x y : More} {A : Option Addr} {xs : List Nat} {o1 o2 o3 p1 p2 p3 : Obj} (h : Lim (_root_.Go.Proofs.Ytjojkogmbgppcaa.plus (_root_.Go.Proofs.Ytjojkogmbgppcaa.plus (((w.alloc o1).alloc o2).alloc o3) x) y) A xs) (h1 : isBox o1) (h2 : isBox o2) (h3 : isBox o3) : Lim (_root_.Go.Proofs.Ytjojkogmbgppcaa.plus (_root_.Go.Proofs.Ytjojkogmbgppcaa.plus (((w.alloc p1).alloc p2).alloc p3) x) y) A xs := by
  rw [plus_add] at h ⊢
  exact h.box3 h1 h2 h3
/-- What 'valid' returns, with names for the sign and the limbs. -/
theorem valid_h {neg pb : Bool} {A : Option Addr} {xs us : List Nat} {n c : Nat} (hid : Hid (decide (bigI neg xs < 0) = pb ∧ dig (bigI neg xs).natAbs = us)) (w : World) (h : Arg w A xs n c) :
    Calls Try.prog 62 #[.agg #[.bool neg, .slice A n c]] w fun e w' => ∃ (A1 : Option Addr) (c1 : Nat), e = .returned (.agg #[.bool pb, .slice A1 us.length c1]) ∧ us.length ≤ c1 ∧ c1 ≤ 9223372036854775807 ∧ Lim w' A1 us ∧ Plus w w' := by
  obtain ⟨rfl, rfl⟩ := hid.out
  exact valid_c neg A xs n c w h.lim h.len (by have := h.few; omega) h.cap h.max
/-- The order of two integers. -/
def cmpZ (a b : Int) : Int := if a < b then -1 else if a = b then 0 else 1

theorem cmpZ_lt {a b : Int} (h : a < b) : cmpZ a b = -1 := by unfold cmpZ; rw [if_pos h]
theorem cmpZ_gt {a b : Int} (h : b < a) : cmpZ a b = 1 := by unfold cmpZ; rw [if_neg (by omega), if_neg (by omega)]
theorem cmpZ_self (a : Int) : cmpZ a a = 0 := by unfold cmpZ; rw [if_neg (by omega), if_pos rfl]
theorem cmp_is (a b : Int) : (if decide (a < 0) then (if decide (b < 0) then cmpI b.natAbs a.natAbs else -1) else if decide (b < 0) then 1 else cmpI a.natAbs b.natAbs) = cmpZ a b := by
  by_cases h1 : a < 0 <;> by_cases h2 : b < 0
  · rw [if_pos (decide_eq_true h1), if_pos (decide_eq_true h2)]
    rcases Int.lt_trichotomy a b with h | h | h
    · rw [cmpI_lt (by omega), cmpZ_lt h]
    · rw [h, cmpI_eq rfl, cmpZ_self]
    · rw [cmpI_gt (by omega), cmpZ_gt h]
  · rw [if_pos (decide_eq_true h1), if_neg (by simpa using h2), cmpZ_lt (by omega)]
  · rw [if_neg (by simpa using h1), if_pos (decide_eq_true h2), cmpZ_gt (by omega)]
  · rw [if_neg (by simpa using h1), if_neg (by simpa using h2)]
    rcases Int.lt_trichotomy a b with h | h | h
    · rw [cmpI_lt (by omega), cmpZ_lt h]
    · rw [h, cmpI_eq rfl, cmpZ_self]
    · rw [cmpI_gt (by omega), cmpZ_gt h]
theorem cmpZ_eq (a b : Int) : (cmpZ a b == 0) = decide (a = b) := by
  unfold cmpZ
  split
  · have : a ≠ b := by omega
    simp [this]
  · split
    · rename_i h; simp [h]
    · rename_i h; simp [h]

theorem sgn_turn (a : Int) : sgn (!decide (a < 0)) a.natAbs = -a := by
  by_cases h : a < 0
  · simp [h, sgn]; omega
  · simp [h, sgn]; omega
end Go.Proofs.Ytjojkogmbgppcaa.Bg
