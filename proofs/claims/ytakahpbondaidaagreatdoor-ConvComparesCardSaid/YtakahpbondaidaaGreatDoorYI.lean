/- The document's beside, of any two values of unlike kinds. -/
import Derived.Test.YtakahpbondaidaaGreatDoorYH
import Derived.Test.YtakahpbondaidaaGreatDoorYF
namespace Go.Proofs.YtakahpbondaidaaGreatDoor
open Go.RowKit

theorem equalR_comm (a b c d : Int) : equalR a b c d = equalR c d a b := by
  unfold equalR equalS
  rw [Bool.eq_iff_iff]
  simp
  constructor <;> (intro h; omega)
theorem cmpZ_eq (a b : Int) : (Bg.cmpZ a b == 0) = decide (a = b) := by
  unfold Bg.cmpZ
  (repeat' split) <;> simp <;> omega
theorem cmpZ_bd (a b : Int) : -1 ≤ Bg.cmpZ a b ∧ Bg.cmpZ a b ≤ 1 := by
  unfold Bg.cmpZ
  (repeat' split) <;> omega
theorem ord_worth {z p q : Int} (hV : IsV p q) : (ordBN z p q == 0) = worthB p q z := by
  unfold ordBN worthB
  rcases hV with ⟨rfl, _, _⟩ | ⟨rfl, rfl⟩ | ⟨rfl, rfl⟩ | ⟨rfl, rfl⟩ | ⟨rfl, rfl⟩
  · rw [if_neg (by decide), if_neg (by decide), if_neg (by decide), cmpZ_eq, Bool.eq_iff_iff]
    simp
    exact eq_comm
  · rw [if_neg (by decide), if_neg (by decide), if_neg (by decide), cmpZ_eq, Bool.eq_iff_iff]
    simp
    exact eq_comm
  · rfl
  · rfl
  · rfl
theorem ordBN_bd (z p q : Int) : ordBN z p q = 2 ∨ (-1 ≤ ordBN z p q ∧ ordBN z p q ≤ 1 ∧ ordBN z p q ≠ 2) := by
  have := cmpZ_bd z q
  unfold ordBN
  (repeat' split) <;> omega
/-- Two kinds that beside is asked of. -/
def besK : JV → JV → Bool
  | .num _ _, .big _ => true
  | .big _, .num _ _ => true
  | .num _ _, .text _ => true
  | .text _, .num _ _ => true
  | .big _, .text _ => true
  | .text _, .big _ => true
  | _, _ => false
theorem bes9_v {u v : Value} {x y : JV} {z : Bool} {s : Int} (hJ : Hid (looseN x y = ⟨z, s⟩)) (hk : besK x y = true) (w : World) (hx : NV w u x) (hy : NV w v y) : Calls Tryz.prog 73 #[u, v] w fun e w' => e = .returned (.tuple #[.bool z, .int .i64 s]) ∧ Plus w w' := by
  have q := hJ.out
  have HX := hx
  have HY := hy
  cases x with
  | num p2 q2 =>
    obtain ⟨A2, C2, c2, d2, rfl, h21, h22, h23⟩ := hx
    cases y with
    | big z3 =>
      obtain ⟨g3, A3, C3, xs3, n3, c3, d3, rfl, h31, h32, rfl, h34⟩ := hy
      change (⟨worthB p2 q2 (Bg.bigI g3 xs3), 0⟩ : B2) = _ at q
      simp only [B2.mk.injEq] at q
      obtain ⟨rfl, rfl⟩ := q
      rw [← ord_worth h23]
      rcases ordBN_bd (Bg.bigI g3 xs3) p2 q2 with ho | ⟨ho1, ho2, ho⟩
      · rw [show (ordBN (Bg.bigI g3 xs3) p2 q2 == 0) = false by rw [ho]; rfl]
        exact bes9_nb2 w (Lib.hid ho) (Lib.hid h23) (Lib.hid h34) (Lib.hid rfl)
      · exact bes9_nbo w (Lib.hid rfl) (Lib.hid h23) (Lib.hid h34) (Lib.hid rfl) (beq_f ho) ho1 ho2 (by rw [Bool.eq_iff_iff]; simp)
    | text us3 =>
      obtain ⟨A3, C3, c3, m3, d3, rfl, h31, h32, h33⟩ := hy
      change readsU p2 q2 us3 = _ at q
      obtain ⟨a, b, t, hN⟩ : ∃ a b t, nofU us3 = ⟨a, b, t⟩ := ⟨_, _, _, rfl⟩
      have hs := nofU_s us3
      unfold readsU at q
      rw [hN] at q hs
      simp only at q hs
      by_cases h0 : t = 0
      · subst h0
        simp at q
        obtain ⟨rfl, rfl⟩ := q
        exact bes9_q w rfl rfl (Lib.hid HX) (Lib.hid HY) (Lib.hid rfl) (Lib.hid hN) rfl rfl (Lib.hid rfl)
      · obtain rfl : t = 3 := by omega
        simp at q
        obtain ⟨rfl, rfl⟩ := q
        exact bes9_e2 w rfl rfl (Lib.hid HX) (Lib.hid HY) (Lib.hid rfl) (Lib.hid hN) rfl rfl
    | _ => cases hk
  | big z2 =>
    obtain ⟨g2, A2, C2, xs2, n2, c2, d2, rfl, h21, h22, rfl, h24⟩ := hx
    cases y with
    | num p3 q3 =>
      obtain ⟨A3, C3, c3, d3, rfl, h31, h32, h33⟩ := hy
      change (⟨worthB p3 q3 (Bg.bigI g2 xs2), 0⟩ : B2) = _ at q
      simp only [B2.mk.injEq] at q
      obtain ⟨rfl, rfl⟩ := q
      rw [← ord_worth h33]
      exact bes9_bn w (Lib.hid rfl) (Lib.hid h33) (Lib.hid h24) (Lib.hid rfl) rfl
    | text us3 =>
      obtain ⟨A3, C3, c3, m3, d3, rfl, h31, h32, h33⟩ := hy
      change (⟨false, 3⟩ : B2) = _ at q
      simp only [B2.mk.injEq] at q
      obtain ⟨rfl, rfl⟩ := q
      exact bes9_bt w
    | _ => cases hk
  | text us2 =>
    obtain ⟨A2, C2, c2, m2, d2, rfl, h21, h22, h23⟩ := hx
    cases y with
    | num p3 q3 =>
      obtain ⟨A3, C3, c3, d3, rfl, h31, h32, h33⟩ := hy
      change readsU p3 q3 us2 = _ at q
      obtain ⟨a, b, t, hN⟩ : ∃ a b t, nofU us2 = ⟨a, b, t⟩ := ⟨_, _, _, rfl⟩
      have hs := nofU_s us2
      unfold readsU at q
      rw [hN] at q hs
      simp only at q hs
      by_cases h0 : t = 0
      · subst h0
        simp at q
        obtain ⟨rfl, rfl⟩ := q
        exact bes9_q w rfl rfl (Lib.hid HX) (Lib.hid HY) (Lib.hid hN) (Lib.hid rfl) rfl rfl (Lib.hid (equalR_comm _ _ _ _))
      · obtain rfl : t = 3 := by omega
        simp at q
        obtain ⟨rfl, rfl⟩ := q
        exact bes9_e1 w rfl rfl (Lib.hid HX) (Lib.hid HY) (Lib.hid hN) (Lib.hid rfl) rfl
    | big z3 =>
      obtain ⟨g3, A3, C3, xs3, n3, c3, d3, rfl, h31, h32, rfl, h34⟩ := hy
      change (⟨false, 3⟩ : B2) = _ at q
      simp only [B2.mk.injEq] at q
      obtain ⟨rfl, rfl⟩ := q
      exact bes9_tb w
    | _ => cases hk
  | _ => cases hk
end Go.Proofs.YtakahpbondaidaaGreatDoor
