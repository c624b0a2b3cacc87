/- LexRises: all ways. -/
import Derived.Deep.QuietTactic
import Derived.BigQuiet
import Derived.Deep.RegionHeld3
import Derived.IntWalk
import Derived.Test.YtaigkjffglbknaaDoorL4x
namespace Go.Proofs.YtaigkjffglbknaaDoor
open Go.RowKit


theorem rise_go (A1 : Option Addr) (xs : List Nat) (n c : Nat) (w : World) (hL : Lai w) (h1 : Ar .u16 65536 w A1 xs n c) : Calls Tryd.prog 4 #[.slice A1 n c] w fun e w' => e = .returned (.bool true) ∧ Plus w w' := by
  have HL := Lib.hid hL
  have ha := Lib.hid h1
  have l1 := h1.len
  by_cases hn : n ≤ 5000
  · have dn : decide ((5000 : Int) < (n : Int)) = false := by simp; omega
    rcases tok_rise xs with ⟨q1, q2, q3⟩ | ⟨l, nl, q1, q2, q3⟩
    · have T1 : tokM xs = ⟨[], (tokM xs).a, (tokM xs).e⟩ := by
        generalize tokM xs = r at q2
        obtain ⟨l, a, er⟩ := r
        dsimp only at q2
        rw [q2]
      by_cases h0 : n = 0
      · exact rise_ez A1 xs n c w HL ha hn dn h0 _ _ _ _ (Lib.hid rfl) (Lib.hid rfl) (by simpa using q1) (by simp) (by simp; omega) (Lib.hid T1)
      · exact rise_ep A1 xs n c w HL ha hn dn (by omega) _ _ _ _ (Lib.hid rfl) (Lib.hid rfl) (by simpa using q1) (by simp) (by simp; omega) (Lib.hid T1)
    · exact rise_ok A1 xs n c w HL ha hn dn l nl (Lib.hid q2) q3 (Lib.hid q1)
  · exact rise_f A1 n c w HL (by simp; omega)
end Go.Proofs.YtaigkjffglbknaaDoor
