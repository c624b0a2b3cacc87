/- Contracts: split, join. -/
import Derived.IntWalk
import Derived.Test.YtlbjjkiflcjkgaaDoorC1a
namespace Go.Proofs.YtlbjjkiflcjkgaaDoor
open Go.RowKit


theorem split_c (v : Nat) (h1 : 65536 ≤ v) (h2 : v ≤ 1114111) (w : World) : Calls Tryd.prog 31 #[.int .i32 v] w fun e w' => e = .returned (.tuple #[.int .u16 ((55296 + (v - 65536) / 1024 : Nat) : Int), .int .u16 ((56320 + (v - 65536) % 1024 : Nat) : Int)]) ∧ w = w' := by
  obtain ⟨d, rfl⟩ : ∃ d, v = 65536 + d := ⟨v - 65536, by omega⟩
  have ed : (65536 + (d : Int) - 65536) = d := by omega
  have a1 : bits .or .u16 55296 ((65536 + (d : Int) - 65536) / 1024) = ((55296 + (65536 + d - 65536) / 1024 : Nat) : Int) := by
    have e := u16_or_nat 55296 (d / 1024) (by decide) (by omega)
    have e2 : ((d : Int) / 1024) = ((d / 1024 : Nat) : Int) := by omega
    rw [show ((55296 : Nat) : Int) = 55296 from rfl] at e
    rw [ed, e2, e, nat_join 10 55296 (d / 1024) (by decide) (by omega)]
    omega
  have a2 : bits .or .u16 56320 (IntKind.u16.wrap (bits .and .i32 (65536 + (d : Int) - 65536) 1023)) = ((56320 + (65536 + d - 65536) % 1024 : Nat) : Int) := by
    have e := i32_and_nat d 1023 (by omega) (by decide)
    rw [show ((1023 : Nat) : Int) = 1023 from rfl] at e
    rw [ed, e, nat_mask10, IntKind.wrap_u16]
    have e3 := u16_or_nat 56320 (d % 1024) (by decide) (by omega)
    have e2 : ((d % 1024 : Nat) : Int) % 65536 = ((d % 1024 : Nat) : Int) := by omega
    rw [show ((56320 : Nat) : Int) = 56320 from rfl] at e3
    rw [e2, e3, nat_join 10 56320 (d % 1024) (by decide) (by omega)]
    omega
  have A1 := Lib.hid a1
  have A2 := Lib.hid a2
  clear a1 a2 ed
  go_enter Tryd.func31, Tryd.ntmps31
  go_wp2
  go_ret2
  exact ⟨by rw [← A1.out, ← A2.out]; rfl, rfl⟩
theorem join_c (a c : Nat) (h1 : hiU a = true) (h2 : loU c = true) (w : World) : Calls Tryd.prog 36 #[.int .u16 a, .int .u16 c] w fun e w' => e = .returned (.int .i32 (joinV a c : Nat)) ∧ w = w' := by
  have e : wrap32 (65536 + bits .or .i32 (wrap32 (wrap32 (IntKind.u16.wrap ((a : Int) - 55296)) * 1024)) (wrap32 (IntKind.u16.wrap ((c : Int) - 56320)))) = (joinV a c : Nat) := by
    unfold hiU at h1; unfold loU at h2; unfold joinV
    simp at h1 h2
    obtain ⟨d, rfl⟩ : ∃ d, a = 55296 + d := ⟨a - 55296, by omega⟩
    obtain ⟨g, rfl⟩ : ∃ g, c = 56320 + g := ⟨c - 56320, by omega⟩
    have w1 : IntKind.u16.wrap (((55296 + d : Nat) : Int) - 55296) = d := by rw [IntKind.wrap_u16]; omega
    have w2 : IntKind.u16.wrap (((56320 + g : Nat) : Int) - 56320) = g := by rw [IntKind.wrap_u16]; omega
    have w3 : wrap32 (d : Int) = d := by unfold wrap32; omega
    have w4 : wrap32 (g : Int) = g := by unfold wrap32; omega
    have w5 : wrap32 ((d : Int) * 1024) = ((d * 1024 : Nat) : Int) := by unfold wrap32; omega
    rw [w1, w2, w3, w4, w5, i32_or_nat (d * 1024) g (by omega) (by omega), nat_join 10 (d * 1024) g (by omega) (by omega)]
    unfold wrap32
    omega
  have E := Lib.hid e
  clear e h1 h2
  go_enter Tryd.func36, Tryd.ntmps36
  go_wp2
  go_ret
  exact ⟨by rw [← E.out]; rfl, rfl⟩
end Go.Proofs.YtlbjjkiflcjkgaaDoor
