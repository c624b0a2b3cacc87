/- OperBits at every value. -/
import Derived.Test.YtgljfgkkolfnbaaGreatDoorL8wz
import Derived.Test.YtgljfgkkolfnbaaGreatDoorL8mz
namespace Go.Proofs.YtgljfgkkolfnbaaGreatDoor
open Go.RowKit

theorem opbits_w {k p q : Int} {g : Bool} {A C : Option Addr} {xs us : List Nat} {n c m d : Nat} {r : Int} (w : World) (hL : Lai w) (h : VM w A xs n c C us m d) : Calls Tryz.prog 8 #[Value.agg #[.int .i64 k, .int .i64 p, .int .i64 q, .bool g, .slice A n c, .slice C m d, .int .i64 r]] w fun e w' => e = .returned (.bool true) ∧ Plus w w' := by
  by_cases hf : fewB m n = true
  · obtain ⟨u, hn, hv⟩ := nrm k p q g A C xs us n c m d r w h (by have := few_of hf; omega)
    have hV := numJ_V hn.ok
    generalize jv k p q g xs us r = x at hn hV
    obtain ⟨a, b, s, hJ⟩ : ∃ a b s, numJ x = ⟨a, b, s⟩ := ⟨_, _, _, rfl⟩
    rw [hJ] at hV
    simp only at hV
    by_cases hs : s = 0
    · subst hs
      obtain ⟨A1, B1, ha, hb, hc, hd, hk, l1, l2, e⟩ := bits_all a b
      have hB1 : -2147483648 ≤ B1 ∧ B1 < 2147483648 := by omega
      exact ob_y w (Lib.hid hL) (Lib.hid hf) (Lib.hid hn) (Lib.hid hv) (Lib.hid hJ) hV (.inl ⟨rfl, by decide, by decide⟩) (.inl ⟨rfl, by omega, by omega⟩) (.inl ⟨rfl, by omega, by omega⟩) (Lib.hid ha) (Lib.hid hb) (Lib.hid hc) (Lib.hid hd) (Lib.hid hk) l1 l2 (by rw [IntWalk.i64_in _ (by omega)]; exact e)
    · exact ob_s w (Lib.hid hL) (Lib.hid hf) (Lib.hid hn) (Lib.hid hv) (Lib.hid hJ) (by simp [hs])
  · exact ob_f w (Lib.hid hL) (Lib.hid (by simpa using hf))
end Go.Proofs.YtgljfgkkolfnbaaGreatDoor
