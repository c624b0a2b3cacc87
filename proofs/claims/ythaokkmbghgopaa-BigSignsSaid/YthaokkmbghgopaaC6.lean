/- Contracts: grow, shrink. -/
import Derived.Test.YthaokkmbghgopaaC5
namespace Go.Proofs.Ythaokkmbghgopaa
open Go.RowKit


def Grown (g : Nat) (xs : List Nat) (q m : Nat) (w : World) (e : Ending) (w' : World) : Prop :=
  ∃ (os : List Nat) (c : Nat), e = .returned (.int .u32 c) ∧ Own w' g os ∧ val os + B ^ xs.length * c = val xs * q + m ∧ os.length = xs.length ∧ c < B ∧ w.grownBy w' (some g)
def GrowRel (xs : List Nat) (q m g : Nat) (w : World) (s7 s15 : Value) (wr : World) : Prop :=
  ∃ (k : Nat) (os : List Nat) (c : Nat), k ≤ xs.length ∧ s7 = .int .u64 c ∧ s15 = .int .i64 k ∧ GrowAt xs q m k os c ∧ Own wr g os ∧ w.grownBy wr (some g)
theorem mul_i {x q : Nat} (hx : x < B) (hq : q < B) : (0 : Int) ≤ (x : Int) * (q : Int) ∧ (x : Int) * (q : Int) ≤ 18446744065119617025 := by
  have h : x * q ≤ (B - 1) * (B - 1) := Nat.mul_le_mul (by omega) (by omega)
  have e : (B - 1) * (B - 1) = 18446744065119617025 := rfl
  have c : ((x * q : Nat) : Int) = (x : Int) * (q : Int) := Int.natCast_mul x q
  omega
theorem GrowRel.step {xs : List Nat} {q m g k c : Nat} {os : List Nat} {w wr : World} (hx : okL xs) (hq : q < B) (hk : k < xs.length) (hS : GrowAt xs q m k os c) (hO : Own wr g os) (hB : w.grownBy wr (some g)) :
    GrowRel xs q m g w (.int .u64 (((lim xs k : Nat) * (q : Nat) + (c : Nat) : Int) / 4294967296)) (.int .i64 ((k : Int) + 1)) (wr.setCell ⟨g, k, none⟩ (.int .u32 (((lim xs k : Nat) * (q : Nat) + (c : Nat) : Int) % 4294967296))) := by
  have e0 : ((lim xs k : Nat) * (q : Nat) + (c : Nat) : Int) = ((lim xs k * q + c : Nat) : Int) := by rw [Int.natCast_add, Int.natCast_mul]
  have e1 : ((lim xs k * q + c : Nat) : Int) / 4294967296 = (((lim xs k * q + c) / B : Nat) : Int) := by rw [B_eq]; omega
  have e2 : ((lim xs k * q + c : Nat) : Int) % 4294967296 = (((lim xs k * q + c) % B : Nat) : Int) := by rw [B_eq]; omega
  rw [e0, e1, e2]
  exact ⟨k + 1, _, _, by omega, rfl, by rw [show ((k + 1 : Nat) : Int) = (k : Int) + 1 by omega], hS.succ hx hq hk, hO.set (by rw [hS.len]; exact hk) (Nat.mod_lt _ B_pos), grown_trans hB (grown_set _ _ _ _)⟩

set_option maxHeartbeats 1000000 in
theorem grow_c (g : Nat) (xs : List Nat) (c q m : Nat) (w : World) (h : Own w g xs) (hq : q < B) (hm : m < B) (hl : xs.length ≤ 1048576) :
    Calls Try.prog 80 #[.slice (some ⟨g, 0, none⟩) xs.length c, .int .u32 q, .int .u32 m] w (Grown g xs q m w) := by
  have q0 : (q : Int) < 4294967296 := by have := B_eq; omega
  have m0 : (m : Int) < 4294967296 := by have := B_eq; omega
  go_enter Try.func80, Try.ntmps80
  go_wp2
  go_loopw [7, 15] (GrowRel xs q m g w) (fun _ s15 _ => ((xs.length : Int) - intOf s15).toNat)
  case atStart => exact ⟨0, xs, m, by omega, rfl, rfl, GrowAt.zero h.1 q hm, h, grown_refl w _⟩
  case round =>
    obtain ⟨j, os, cy, hj, rfl, rfl, hS, hO, hB⟩ := hrel
    by_cases hlt2 : j < xs.length
    · obtain ⟨x0, x1⟩ := lim_i h.1 j
      obtain ⟨p0, p1⟩ := mul_i (lim_lt h.1 j) hq
      have hcy : (cy : Int) < 4294967296 := by have := hS.carry; have := B_eq; omega
      have hjo : j < os.length := by rw [hS.len]; exact hlt2
      have hlx : lim os j = lim xs j := lim_rest (hS.rest j (Nat.le_refl _))
      have hcell := hO.cell hjo
      rw [hlx] at hcell
      have hfro := hO.frozen j
      have HS := Lib.hid hS
      have HO := Lib.hid hO
      clear hS hO hlx hjo hm
      go_wp2
      go_roundw
      case rel => exact GrowRel.step h.1 hq hlt2 HS.out HO.out hB
      case measure => simp [intOf]; omega
    · obtain rfl : j = xs.length := by omega
      have hcy : (cy : Int) < 4294967296 := by have := hS.carry; have := B_eq; omega
      have HD := Lib.hid hS.done
      have HO := Lib.hid hO
      have HL := Lib.hid hS.len
      have HC := Lib.hid hS.carry
      clear hS hO hm
      go_wp2
      go_ret
      exact ⟨os, cy, rfl, HO.out, HD.out, HL.out, HC.out, hB⟩

theorem or_add (r x : Nat) (hx : x < B) : (r * 4294967296 ||| x) = B * r + x := by
  have h := Nat.two_pow_add_eq_or_of_lt (i := 32) (b := x) (by rw [← B_two]; exact hx) r
  rw [B_two, Nat.mul_comm r]
  exact h.symm
theorem shr_i {r x q : Nat} (hx : x < B) (hr : r < q) (hq : q < B) :
    bits BinOp.or IntKind.u64 ((r : Int) * 4294967296) (x : Int) = ((B * r + x : Nat) : Int) ∧ (0 : Int) ≤ ((B * r + x : Nat) : Int) / (q : Int) ∧ ((B * r + x : Nat) : Int) / (q : Int) < 4294967296 ∧ (0 : Int) ≤ ((B * r + x : Nat) : Int) % (q : Int) ∧ ((B * r + x : Nat) : Int) % (q : Int) < 4294967296 := by
  have eB := B_eq
  have q0 : 0 < q := by omega
  refine ⟨?_, ?_, ?_, ?_, ?_⟩
  · have e : (r : Int) * 4294967296 = ((r * 4294967296 : Nat) : Int) := by omega
    rw [e, u64_or_nat _ _ (by omega) (by omega), or_add r x hx]
  · rw [← Int.natCast_ediv]; exact Int.natCast_nonneg _
  · rw [← Int.natCast_ediv]
    have : (B * r + x) / q < B := by
      rw [Nat.div_lt_iff_lt_mul q0]
      have h2 : B * (r + 1) ≤ B * q := Nat.mul_le_mul_left _ hr
      rw [Nat.mul_succ] at h2
      omega
    omega
  · rw [← Int.natCast_emod]; exact Int.natCast_nonneg _
  · rw [← Int.natCast_emod]
    have := Nat.mod_lt (B * r + x) q0
    omega
def Shrunk (g : Nat) (xs : List Nat) (q : Nat) (w : World) (e : Ending) (w' : World) : Prop :=
  ∃ (os : List Nat), e = .returned (.int .u32 (val xs % q : Nat)) ∧ Own w' g os ∧ val os = val xs / q ∧ os.length = xs.length ∧ w.grownBy w' (some g)
def ShrinkRel (xs : List Nat) (q g : Nat) (w : World) (s5 s6 : Value) (wr : World) : Prop :=
  ∃ (k : Nat) (os : List Nat) (r : Nat), k ≤ xs.length ∧ s5 = .int .u64 r ∧ s6 = .int .i64 (k - 1 : Int) ∧ ShrinkAt xs q k os r ∧ Own wr g os ∧ w.grownBy wr (some g)
theorem ShrinkRel.step {xs : List Nat} {q g k r st : Nat} {os : List Nat} {w wr : World} (hx : okL xs) (hq : q < B) (hk : k < xs.length) (hst : B * r + lim xs k = st) (hS : ShrinkAt xs q (k + 1) os r) (hO : Own wr g os) (hB : w.grownBy wr (some g)) :
    ShrinkRel xs q g w (.int .u64 ((st : Int) % (q : Int))) (.int .i64 ((k : Int) - 1)) (wr.setCell ⟨g, k, none⟩ (.int .u32 ((st : Int) / (q : Int)))).drew := by
  subst hst
  have hS' := hS.succ hx (Nat.le_of_lt hq) hk
  rw [← Int.natCast_ediv, ← Int.natCast_emod]
  have hv : (B * r + lim xs k) / q < B := by
    have q0 : 0 < q := Nat.lt_of_le_of_lt (Nat.zero_le _) hS.rest
    rw [Nat.div_lt_iff_lt_mul q0]
    have h2 : B * (r + 1) ≤ B * q := Nat.mul_le_mul_left _ hS.rest
    have h3 := lim_lt hx k
    rw [Nat.mul_succ] at h2
    omega
  exact ⟨k, _, _, by omega, rfl, rfl, hS', (hO.set (by rw [hS.len]; exact hk) hv).drew, grown_drew (grown_trans hB (grown_set _ _ _ _))⟩

set_option maxHeartbeats 1000000 in
theorem shrink_c (g : Nat) (xs : List Nat) (c q : Nat) (w : World) (h : Own w g xs) (hq : q < B) (q0 : 0 < q) (hl : xs.length ≤ 1048576) :
    Calls Try.prog 82 #[.slice (some ⟨g, 0, none⟩) xs.length c, .int .u32 q] w (Shrunk g xs q w) := by
  have q1 : (q : Int) < 4294967296 := by have := B_eq; omega
  go_enter Try.func82, Try.ntmps82
  go_wp2
  go_loopw [5, 6] (ShrinkRel xs q g w) (fun _ s6 _ => (intOf s6 + 1).toNat)
  case atStart => exact ⟨xs.length, xs, 0, by omega, rfl, rfl, ShrinkAt.top h.1 q0, h, grown_refl w _⟩
  case round =>
    obtain ⟨j, os, r, hj, rfl, rfl, hS, hO, hB⟩ := hrel
    rcases j with _ | j
    · have hr : (r : Int) < 4294967296 := by have := hS.rest; have := B_eq; omega
      obtain ⟨hv, rfl⟩ := hS.quo
      have HV := Lib.hid hv
      have HO := Lib.hid hO
      have HL := Lib.hid hS.len
      clear hS hO hv
      go_wp2
      go_ret
      exact ⟨os, rfl, HO.out, HV.out, HL.out, hB⟩
    · rw [show ((j + 1 : Nat) : Int) - 1 = j by omega]
      obtain ⟨x0, x1⟩ := lim_i h.1 j
      have hr : (r : Int) < 4294967296 := by have := hS.rest; have := B_eq; omega
      have hjo : j < os.length := by rw [hS.len]; exact hj
      have hjx : j < xs.length := hj
      have hlx : lim os j = lim xs j := lim_rest (hS.low j (Nat.lt_succ_self _))
      have hcell := hO.cell hjo
      rw [hlx] at hcell
      have hfro := hO.frozen j
      have HS := Lib.hid hS
      have HO := Lib.hid hO
      obtain ⟨hor, d0, d1, t0, t1⟩ := shr_i (lim_lt h.1 j) hS.rest hq
      obtain ⟨st, hst⟩ : ∃ st, B * r + lim xs j = st := ⟨_, rfl⟩
      rw [hst] at hor d0 d1 t0 t1
      have HT := Lib.hid hst
      clear hS hO hlx hjo hst
      go_wp2
      clear hor
      have qz : ((q : Int) == 0) = false := by simp; omega
      go_region
      all_goals
        go_wp2
        go_roundw
        case rel => exact ShrinkRel.step h.1 hq hjx HT.out HS.out HO.out hB
        case measure => simp [intOf]
end Go.Proofs.Ythaokkmbghgopaa
