/- Contracts: escapes. -/
import Derived.Laws.BitsAllLaws
import Derived.Test.YtaigkjffglbknaaDoorA9
namespace Go.Proofs.YtaigkjffglbknaaDoor
open Go.RowKit


theorem unitAt_j (A : Option Addr) (xs : List Nat) (n c j : Nat) (z : Int) (w : World) (h : Ar .u16 65536 w A xs n c) (hj : j ≤ 9223372036854775807) (hz : z = j) :
    Calls Tryd.prog 49 #[.slice A n c, .int .i64 z] w fun e w' => e = .returned (.int .u16 (uAt xs j)) ∧ w = w' := by
  subst hz
  exact unitAt_c A xs n c j w h hj
theorem u16_or_nat (a b : Nat) (ha : a < 65536) (hb : b < 65536) : bits .or .u16 (a : Int) (b : Int) = ((a ||| b : Nat) : Int) := by
  have hx : a ||| b < 2 ^ 16 := Nat.or_lt_two_pow (by omega) (by omega)
  have e : ∀ a : Nat, a < 65536 → (BitVec.ofInt 16 (a : Int)).toNat = a := fun a h => by rw [BitVec.toNat_ofInt]; omega
  show IntKind.u16.wrap ((BitVec.ofInt 16 (a : Int) ||| BitVec.ofInt 16 (b : Int)).toNat : Int) = _
  rw [BitVec.toNat_or, e a ha, e b hb, IntKind.wrap_u16]
  omega
theorem hexV_lt (c : Nat) : hexV c < 16 := by
  unfold hexV
  by_cases h : isDig c = true
  · rw [if_pos h]; simp [isDig] at h; omega
  · rw [if_neg h]; (repeat' split) <;> omega
def CoRel (xs : List Nat) (d : Nat) (s7 s12 : Value) : Prop := ∃ k v : Nat, k ≤ d ∧ s12 = .int .i64 k ∧ s7 = .int .u16 v ∧ v < 65536 ∧ codM xs 0 1 d = codM xs v (1 + k) (d - k)
theorem shl_or (v h : Nat) (_hv : v < 65536) (hh : h < 16) : bits .or .u16 (IntKind.u16.wrap ((v : Int) * 16)) (h : Int) = (((v * 16 + h) % 65536 : Nat) : Int) := by
  have e1 : IntKind.u16.wrap ((v : Int) * 16) = ((v * 16 % 65536 : Nat) : Int) := by rw [IntKind.wrap_u16]; omega
  rw [e1]
  have e2 : v * 16 % 65536 = v % 4096 * 16 := by omega
  have e3 : v % 4096 * 16 ||| h = v % 4096 * 16 + h := by
    have := Nat.two_pow_add_eq_or_of_lt (i := 4) (b := h) (by simpa using hh) (v % 4096)
    rw [show v % 4096 * 16 = 2 ^ 4 * (v % 4096) by omega, this]
  rw [u16_or_nat _ _ (by omega) (by omega), e2, e3]
  omega
set_option maxRecDepth 100000 in
set_option maxHeartbeats 4000000 in
theorem cod_c (A : Option Addr) (xs : List Nat) (n c d : Nat) (w : World) (H : Hid (Ar .u16 65536 w A xs n c)) (hd : d ≤ 4) :
    Calls Tryd.prog 69 #[.slice A n c, .int .i64 d] w fun e w' => e = .returned (.tuple #[.int .u16 (codE xs d).v, .int .i64 (codE xs d).n, .int .i64 (codE xs d).e]) ∧ w = w' := by
  go_enter Tryd.func69, Tryd.ntmps69
  go_wp2
  go_loop [7, 12] (fun s7 s12 => CoRel xs d s7 s12) (fun _ s12 => ((d : Int) - intOf s12).toNat)
  case atStart => exact ⟨0, 0, by omega, rfl, rfl, by decide, rfl⟩
  case round =>
    obtain ⟨k, v, hk, rfl, rfl, hv, he⟩ := hrel
    have HE := Lib.hid he
    clear he
    by_cases hlt : k < d
    · obtain ⟨u, hu⟩ : ∃ u, uAt xs (1 + k) = u := ⟨_, rfl⟩
      have hub : u < 65536 := by rw [← hu]; exact H.out.getD_lt (by decide) _
      have HU := Lib.hid hu
      clear hu
      obtain ⟨b, hb⟩ : ∃ b, hexB u = b := ⟨_, rfl⟩
      have HB := Lib.hid hb
      clear hb
      obtain ⟨x, hx⟩ : ∃ x, hexV u = x := ⟨_, rfl⟩
      have hx16 : x < 16 := by rw [← hx]; exact hexV_lt u
      have HX := Lib.hid hx
      clear hx
      cases b
      · have HR : Hid (codE xs d = ⟨0, 0, 5⟩) := Lib.hid (by
          unfold codE
          rw [HE.out]
          obtain ⟨m, hm⟩ : ∃ m, d - k = m + 1 := ⟨d - k - 1, by omega⟩
          rw [hm, codM, HU.out, HB.out]
          rfl)
        go_wp2_with (first | (go_at_call 49; (with_reducible refine (unitAt_j _ _ _ _ (1 + k) _ _ H.out (by omega) (by omega)).mono ?_); rintro e w1 ⟨rfl, rfl⟩; rw [HU.out]) | (go_at_call 79; (with_reducible refine (hex_c u hub _).mono ?_); rintro e w1 ⟨rfl, rfl⟩; rw [HB.out, HX.out]))
        go_ret3
        exact ⟨by rw [HR.out]; rfl, rfl⟩
      · have HS := Lib.hid (shl_or v x hv hx16)
        have HE2 : Hid (codM xs 0 1 d = codM xs ((v * 16 + x) % 65536) (1 + (k + 1)) (d - (k + 1))) := Lib.hid (by
          rw [HE.out]
          obtain ⟨m, hm⟩ : ∃ m, d - k = m + 1 := ⟨d - k - 1, by omega⟩
          rw [hm, codM, HU.out, HB.out, HX.out, show d - (k + 1) = m by omega]
          rfl)
        go_wp2_with (first | (go_at_call 49; (with_reducible refine (unitAt_j _ _ _ _ (1 + k) _ _ H.out (by omega) (by omega)).mono ?_); rintro e w1 ⟨rfl, rfl⟩; rw [HU.out]) | (go_at_call 79; (with_reducible refine (hex_c u hub _).mono ?_); rintro e w1 ⟨rfl, rfl⟩; rw [HB.out, HX.out]))
        go_round
        case rel => exact ⟨k + 1, _, hlt, by rw [show ((k + 1 : Nat) : Int) = (k : Int) + 1 by omega], by rw [HS.out], Nat.mod_lt _ (by decide), HE2.out⟩
        case measure => simp [intOf]; omega
    · obtain rfl : k = d := by omega
      have HR : Hid (codE xs k = ⟨v, 1 + k, 0⟩) := Lib.hid (by
        unfold codE
        rw [HE.out, Nat.sub_self]
        rfl)
      go_wp2
      go_ret3
      exact ⟨by rw [HR.out]; rfl, rfl⟩
end Go.Proofs.YtaigkjffglbknaaDoor
