/- Contracts: split, join. -/
import Derived.IntWalk
import Derived.Test.YtdckonlipinblaaGreatDoorC1a
namespace Go.Proofs.YtdckonlipinblaaGreatDoor
open Go.RowKit


theorem split_c (v : Nat) (h1 : 65536 ≤ v) (h2 : v ≤ 1114111) (w : World) : Calls Tryz.prog 36 #[.int .i32 v] w fun e w' => e = .returned (.tuple #[.int .u16 ((55296 + (v - 65536) / 1024 : Nat) : Int), .int .u16 ((56320 + (v - 65536) % 1024 : Nat) : Int)]) ∧ w = w' := by
  obtain ⟨d, rfl⟩ : ∃ d, v = 65536 + d := ⟨v - 65536, by omega⟩
  have ed : (65536 + (d : Int) - 65536) = d := by omega
  have a1 : bits .or .u16 55296 ((65536 + (d : Int) - 65536) / 1024) = ((55296 + (65536 + d - 65536) / 1024 : Nat) : Int) := by
    have e := u16_or_nat 55296 (d / 1024) (by decide) (by omega)
    have e2 : ((d : Int) / 1024) = ((d / 1024 : Nat) : Int) := by omega
    rw [show ((55296 : Nat) : Int) = 55296 from rfl] at e
    rw [ed, e2, e, nat_join 10 55296 (d / 1024) (by decide) (by omega)]
    omega
  have a2 : bits .or .u16 56320 (IntKind.u16.wrap (bits .and .i32 (65536 + (d : Int) - 65536) 1023)) = ((56320 + (65536 + d - 65536) % 1024 : Nat) : Int) := by
    have e := i32_and_nat d 1023 (by omega) (by decide)
    rw [show ((1023 : Nat) : Int) = 1023 from rfl] at e
    rw [ed, e, nat_mask10, IntKind.wrap_u16]
    have e3 := u16_or_nat 56320 (d % 1024) (by decide) (by omega)
    have e2 : ((d % 1024 : Nat) : Int) % 65536 = ((d % 1024 : Nat) : Int) := by omega
    rw [show ((56320 : Nat) : Int) = 56320 from rfl] at e3
    rw [e2, e3, nat_join 10 56320 (d % 1024) (by decide) (by omega)]
    omega
  have A1 := Lib.hid a1
  have A2 := Lib.hid a2
  clear a1 a2 ed
  go_enter Tryz.func36, Tryz.ntmps36
  go_wp2
  go_ret2
  exact ⟨by rw [← A1.out, ← A2.out]; rfl, rfl⟩
end Go.Proofs.YtdckonlipinblaaGreatDoor
