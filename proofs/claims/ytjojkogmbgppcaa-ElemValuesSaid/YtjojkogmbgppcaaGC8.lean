/- Contract: divide. -/
import Derived.Deep.OwnRows
import Derived.Test.YtjojkogmbgppcaaGC7
namespace Go.Proofs.Ytjojkogmbgppcaa.Bg
open Go.RowKit


theorem cmpI_ge {a b : Nat} (h : b ≤ a) : ∃ z : Int, cmpI a b = z ∧ 0 ≤ z := by
  rcases Nat.lt_or_ge b a with h1 | h1
  · exact ⟨1, cmpI_gt h1, by decide⟩
  · exact ⟨0, cmpI_eq (by omega), by decide⟩
theorem orbit_i {l b : Nat} (hl : l < B) (hb : b < 32) : (0 : Int) ≤ 2 ^ b ∧ (2 : Int) ^ b < 4294967296 ∧ bits BinOp.or IntKind.u32 (l : Int) (2 ^ b) = ((l ||| 2 ^ b : Nat) : Int) := by
  have e : (2 : Int) ^ b = ((2 ^ b : Nat) : Int) := by rw [Int.natCast_pow]; rfl
  have h2 : 2 ^ b < 4294967296 := Nat.pow_lt_pow_right (by decide : 1 < 2) hb
  rw [e, u32_or_nat l (2 ^ b) hl h2]
  exact ⟨Int.natCast_nonneg _, Int.ofNat_lt.2 h2, rfl⟩
theorem Own.zeros' (w : World) (g n : Nat) (t : TypeId) (cs : Array Value) (hc : cs = Array.replicate n (.int .u32 0)) (hg : g = w.heap.size) : Own (w.alloc (.cells cs t)) g (List.replicate n 0) := by
  subst hg
  exact Own.zeros w n t cs hc
theorem subtract_i (g : Nat) (C : Option Addr) (xs ys : List Nat) (n c d : Nat) (w : World) (h : Own w g xs) (k : Lim w C ys) (hn : n = xs.length) (hne : 0 < ys.length → ∀ ad, C = some ad → ad.block ≠ g) (hle : val ys ≤ val xs) (hl : xs.length ≤ 1048576) :
    Calls Try.prog 74 #[.slice (some ⟨g, 0, none⟩) n c, .slice C ys.length d] w (Subbed g xs ys w) := by
  subst hn
  exact subtract_c g C xs ys c d w h k hne hle hl
theorem bit_i {l b : Nat} (h : l < B) : bits BinOp.and IntKind.u32 ((l : Int) / 2 ^ b) 1 = ((l / 2 ^ b % 2 : Nat) : Int) := by
  have e : (l : Int) / 2 ^ b = ((l / 2 ^ b : Nat) : Int) := by rw [Int.natCast_ediv, Int.natCast_pow]; rfl
  have hlt : l / 2 ^ b < 4294967296 := Nat.lt_of_le_of_lt (Nat.div_le_self _ _) h
  have h2 := u32_and_nat (l / 2 ^ b) 1 hlt (by omega)
  rw [e, show (1 : Int) = ((1 : Nat) : Int) from rfl, h2, Nat.and_one_is_mod]
theorem grow_zero {n R b Y c V : Nat} (h : V + B ^ (n + 1) * c = R * 2 + b) (hb : b < 2) (hR : R < Y) (hY : Y ≤ B ^ n) : V = 2 * R + b := by
  have hc : c = 0 := by
    rcases Nat.eq_zero_or_pos c with hz | hz
    · exact hz
    · have h1 := Nat.le_mul_of_pos_right (B ^ (n + 1)) hz
      have h2 : B ^ n * 2 ≤ B ^ (n + 1) := by rw [Nat.pow_succ]; exact Nat.mul_le_mul_left _ (by decide)
      omega
  subst hc
  omega
def DivRel (xs ys : List Nat) (g : Nat) (w : World) (s6 : Value) (wr : World) : Prop :=
  ∃ (j Q R : Nat) (os rs : List Nat), j ≤ xs.length * 32 ∧ s6 = .int .i64 (j - 1 : Int) ∧ DivAt (val xs) (val ys) j Q R ∧ Own wr g os ∧ os.length = xs.length ∧ val os = 2 ^ j * Q ∧ Own wr (g + 1) rs ∧ rs.length = ys.length + 1 ∧ val rs = R ∧ Below w.heap.size w wr
/-- Two new slices: the quotient, the rest. -/
def NewQR (L M Q R : Nat) (w : World) (e : Ending) (w' : World) : Prop :=
  ∃ (os rs : List Nat), e = .returned (.tuple #[.slice (some ⟨w.heap.size, 0, none⟩) os.length os.length, .slice (some ⟨w.heap.size + 1, 0, none⟩) rs.length rs.length]) ∧ Own w' w.heap.size os ∧ Own w' (w.heap.size + 1) rs ∧ val os = Q ∧ val rs = R ∧ os.length ≤ L ∧ rs.length ≤ M ∧ Below w.heap.size w w'

end Go.Proofs.Ytjojkogmbgppcaa.Bg
