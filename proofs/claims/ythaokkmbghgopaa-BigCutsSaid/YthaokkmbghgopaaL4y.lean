/- BigCuts, of any arguments. -/
import Derived.Carry
import Derived.Test.YthaokkmbghgopaaL4w
namespace Go.Proofs.Ythaokkmbghgopaa
open Go.RowKit

open Go.ChangeShapes
theorem nm_mod (a z : Int) (h0 : 0 ≤ z) (h1 : z ≤ 256) : (a % 2 ^ z.toNat).natAbs < B ^ 8 := by
  have ep : ((2 ^ z.toNat : Nat) : Int) = (2 : Int) ^ z.toNat := by rw [Int.natCast_pow]; rfl
  have hp : (0 : Int) < 2 ^ z.toNat := by rw [← ep]; exact Int.ofNat_lt.2 (Nat.two_pow_pos _)
  have r0 := Int.emod_nonneg a (Int.ne_of_gt hp)
  have r1 := Int.emod_lt_of_pos a hp
  have hB : 2 ^ z.toNat ≤ B ^ 8 := by rw [pow_bits]; exact Nat.pow_le_pow_right (by decide) (by omega)
  omega
theorem nm_asI (a z : Int) (h0 : 0 ≤ z) (h1 : z ≤ 256) : (asI z a).natAbs < B ^ 8 := by
  have ep : ((2 ^ z.toNat : Nat) : Int) = (2 : Int) ^ z.toNat := by rw [Int.natCast_pow]; rfl
  have hp : (0 : Int) < 2 ^ z.toNat := by rw [← ep]; exact Int.ofNat_lt.2 (Nat.two_pow_pos _)
  have r0 := Int.emod_nonneg a (Int.ne_of_gt hp)
  have r1 := Int.emod_lt_of_pos a hp
  have hB : 2 ^ z.toNat ≤ B ^ 8 := by rw [pow_bits]; exact Nat.pow_le_pow_right (by decide) (by omega)
  unfold asI asIntR
  split
  · omega
  · rename_i h
    have hk : z.toNat ≠ 0 := fun e => h (.inl e)
    have ep1 : ((2 ^ (z.toNat - 1) : Nat) : Int) = (2 : Int) ^ (z.toNat - 1) := by rw [Int.natCast_pow]; rfl
    have hpos := Nat.two_pow_pos (z.toNat - 1)
    have : ¬ a % 2 ^ z.toNat < 2 ^ (z.toNat - 1) := fun e => h (.inr e)
    omega
theorem wf_u64 {z : Int} (h : (Lit.int .u64 z).wf = true) : 0 ≤ z ∧ z ≤ 18446744073709551615 := by
  simp [Lit.wf, IntKind.min, IntKind.max, IntKind.bits, IntKind.signed] at h
  omega

theorem wf_i64 {z : Int} (h : (Lit.int .i64 z).wf = true) : -9223372036854775808 ≤ z ∧ z ≤ 9223372036854775807 := by
  simp [Lit.wf, IntKind.min, IntKind.max, IntKind.bits, IntKind.signed] at h
  omega
section
variable {H : Type} {enc : TypeId × Value → H} {P : Program} {w : World} {base : Nat} {spare : Nat → Bool} {held : Bool}
theorem trodAll_five {t0 t1 t2 t3 t4 : TypeId} {args : Array Value} {ds : List (DataW H)} {ps : List MemPlace} (h : DataW.TrodAll enc P w base spare held [t0, t1, t2, t3, t4] args.toList ds ps) :
    ∃ v0 v1 v2 v3 v4 d0 d1 d2 d3 d4 p0 p1 p2 p3 p4, args = #[v0, v1, v2, v3, v4] ∧ ds = [d0, d1, d2, d3, d4] ∧ ps = p0 ++ p1 ++ p2 ++ p3 ++ p4 ∧ DataW.Trod enc P w base spare held t0 v0 d0 p0 ∧ DataW.Trod enc P w base spare held t1 v1 d1 p1 ∧ DataW.Trod enc P w base spare held t2 v2 d2 p2 ∧ DataW.Trod enc P w base spare held t3 v3 d3 p3 ∧ DataW.Trod enc P w base spare held t4 v4 d4 p4 := by
  obtain ⟨v0, s0, d0, e0, p0, q0, hargs, rfl, rfl, h0, k0⟩ := trodAll_cons h
  obtain ⟨v1, s1, d1, e1, p1, q1, rfl, rfl, rfl, h1, k1⟩ := trodAll_cons k0
  obtain ⟨v2, s2, d2, e2, p2, q2, rfl, rfl, rfl, h2, k2⟩ := trodAll_cons k1
  obtain ⟨v3, s3, d3, e3, p3, q3, rfl, rfl, rfl, h3, k3⟩ := trodAll_cons k2
  obtain ⟨v4, s4, d4, e4, p4, q4, rfl, rfl, rfl, h4, k4⟩ := trodAll_cons k3
  obtain ⟨rfl, rfl, rfl⟩ := trodAll_nil k4
  exact ⟨v0, v1, v2, v3, v4, d0, d1, d2, d3, d4, p0, p1, p2, p3, p4, by cases args; simp_all, rfl, by simp, h0, h1, h2, h3, h4⟩
theorem trodAll_mk5 {t0 t1 t2 t3 t4 : TypeId} {v0 v1 v2 v3 v4 : Value} {d0 d1 d2 d3 d4 : DataW H} {p0 p1 p2 p3 p4 : List MemPlace} (h0 : DataW.Trod enc P w base spare held t0 v0 d0 p0) (h1 : DataW.Trod enc P w base spare held t1 v1 d1 p1)
    (h2 : DataW.Trod enc P w base spare held t2 v2 d2 p2) (h3 : DataW.Trod enc P w base spare held t3 v3 d3 p3) (h4 : DataW.Trod enc P w base spare held t4 v4 d4 p4) : DataW.TrodAll enc P w base spare held [t0, t1, t2, t3, t4] [v0, v1, v2, v3, v4] [d0, d1, d2, d3, d4] (p0 ++ (p1 ++ (p2 ++ (p3 ++ p4)))) := ⟨p0, p1 ++ (p2 ++ (p3 ++ p4)), h0, trodAll_mk4 h1 h2 h3 h4, rfl⟩
end

set_option maxHeartbeats 8000000 in
theorem cuts_w (z : Int) (an : Bool) (A : Option Addr) (xs : List Nat) (m c : Nat) (y n : Int) (s : Bool) (w : World) (ha : Raw w A xs m c) (hy : (Lit.int .u64 y).wf = true) (hn : (Lit.int .i64 n).wf = true) :
    Calls Try.prog 4 #[.int .i64 z, .agg #[.bool an, .slice A m c], .int .u64 y, .int .i64 n, .bool s] w fun e w' => e = .returned (.bool true) ∧ Plus w w' := by
  by_cases f1 : m ≤ 40
  · have hB : B ^ 8 = 115792089237316195423570985008687907853269984665640564039457584007913129639936 := by decide
    have hBB : B * B = 18446744073709551616 := by decide
    obtain ⟨y0, y1⟩ := wf_u64 hy
    obtain ⟨n0, n1⟩ := wf_i64 hn
    obtain ⟨a, ga⟩ : ∃ a, bigI an xs = a := ⟨_, rfl⟩
    obtain ⟨r, hr⟩ : ∃ r : Int, r = if s = true ∧ 9223372036854775808 ≤ y.toNat then (y.toNat : Int) - 18446744073709551616 else y.toNat := ⟨_, rfl⟩
    have hr1 : r = y ∨ r = y - 18446744073709551616 := by
      rw [hr]
      split <;> omega
    have m3 := Nm.mk' (n := r) (by rw [hB]; omega)
    have m4 := Nm.mk' (n := n) (by rw [hB]; omega)
    have hF : FwN y r s _ _ := ⟨m3, y.toNat, by omega, by rw [hBB]; omega, hr⟩
    have hO : OfN n n _ _ := ⟨m4, rfl, n0, n1⟩
    by_cases hz : 0 ≤ z ∧ z ≤ 256
    · have m1 := Nm.mk' (nm_mod a z hz.1 hz.2)
      have m2 := Nm.mk' (nm_asI a z hz.1 hz.2)
      exact cuts_h z y n an s A xs _ _ _ _ m c _ _ _ _ a _ _ _ _ _ _ _ w (Lib.hid (ha.arg f1)) (Lib.hid (decide_eq_true f1)) (Lib.hid ga)
        (Lib.hid ⟨m1, .inl ⟨hz.1, hz.2, rfl, rfl⟩⟩) (Lib.hid ⟨m2, .inl ⟨hz.1, hz.2, rfl, rfl⟩⟩) (Lib.hid rfl) (Lib.hid hF) (Lib.hid hO)
    · have m0 := Nm.mk' (n := 0) (by decide)
      have hz2 : z < 0 ∨ 256 < z := by omega
      exact cuts_h z y n an s A xs _ _ _ _ m c _ _ _ _ a _ _ _ _ _ _ _ w (Lib.hid (ha.arg f1)) (Lib.hid (decide_eq_true f1)) (Lib.hid ga)
        (Lib.hid ⟨m0, .inr ⟨hz2, rfl, rfl⟩⟩) (Lib.hid ⟨m0, .inr ⟨hz2, rfl, rfl⟩⟩) (Lib.hid rfl) (Lib.hid hF) (Lib.hid hO)
  · exact cuts_l z y n an s A m c w (Lib.hid (decide_eq_false f1))
end Go.Proofs.Ythaokkmbghgopaa
