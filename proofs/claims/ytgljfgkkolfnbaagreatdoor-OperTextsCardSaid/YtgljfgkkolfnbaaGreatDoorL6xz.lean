/- OperTexts at every text. -/
import Derived.Test.YtgljfgkkolfnbaaGreatDoorL6wz
import Derived.Test.YtgljfgkkolfnbaaGreatDoorV16z
namespace Go.Proofs.YtgljfgkkolfnbaaGreatDoor
open Go.RowKit

theorem itoa_len {z : Int} (h : -9223372036854775808 ≤ z ∧ z ≤ 9223372036854775807) : (Lib.itoa z).length ≤ 100 := by
  unfold Lib.itoa
  split
  · have h3 : z.natAbs < 10 ^ 20 := by omega
    have := dec_le 19 _ h3
    simp only [List.length_cons]
    omega
  · have h3 : z.toNat < 10 ^ 20 := by omega
    have := dec_le 19 _ h3
    omega
theorem optexts_w {A0 A1 A2 : Option Addr} {n0 c0 n1 c1 n2 c2 : Nat} {ua ub uc : List Nat} {z : Int} (w : World) (hL : Lai w) (h0 : Ar .u16 65536 w A0 ua n0 c0) (h1 : Ar .u16 65536 w A1 ub n1 c1) (h2 : Ar .u16 65536 w A2 uc n2 c2) (hz : -9223372036854775808 ≤ z ∧ z ≤ 9223372036854775807) : Calls Tryz.prog 6 #[.slice A0 n0 c0, .slice A1 n1 c1, .slice A2 n2 c2, .int .i64 z] w fun e w' => e = .returned (.bool true) ∧ Plus w w' := by
  by_cases g0 : (1300 : Int) < n0
  · exact ot_1 w (Lib.hid hL) g0
  by_cases g1 : (1300 : Int) < n1
  · exact ot_2 w (Lib.hid hL) g0 g1
  by_cases g2 : (1300 : Int) < n2
  · exact ot_3 w (Lib.hid hL) g0 g1 g2
  have e0 := h0.len
  have e1 := h1.len
  have e2 := h2.len
  have hlen : (u8n (Lib.itoa z)).length ≤ 100 := by
    unfold u8n
    rw [List.length_map]
    exact itoa_len hz
  exact ot_y w (Lib.hid hL) (Lib.hid h0) (Lib.hid h1) (Lib.hid h2) (by omega) (by omega) (by omega) (by omega) (by omega) (by omega) g0 g1 g2 (by omega) (by rw [List.length_append]; omega) (by omega) (by rw [List.length_append]; omega) (by simp; omega) (by omega)
    (Lib.hid (by rw [List.length_append, List.length_append, ← e0, ← e1, ← e2])) (Lib.hid (fun a b => isV_w a b)) hz.1 hz.2 (Lib.hid rfl) (Lib.hid ⟨nats_mk _, rfl⟩) (by show (Lib.itoa z).toArray.size ≤ _; rw [List.size_toArray]; have := itoa_len hz; omega)
end Go.Proofs.YtgljfgkkolfnbaaGreatDoor
