/- Contract: product. -/
import Derived.Deep.OwnRows
import Derived.Test.YthaokkmbghgopaaC6
namespace Go.Proofs.Ythaokkmbghgopaa
open Go.RowKit


def RowRel (xs ys : List Nat) (g : Nat) (w : World) (s20 : Value) (wr : World) : Prop :=
  ∃ (i : Nat) (os : List Nat), i ≤ xs.length ∧ s20 = .int .i64 i ∧ RowAt xs ys i os ∧ Own wr g os ∧ Below w.heap.size w wr
def LimbRel (xs ys : List Nat) (i g : Nat) (w : World) (s8 s29 : Value) (wr : World) : Prop :=
  ∃ (k : Nat) (os : List Nat) (c : Nat), k ≤ ys.length ∧ s8 = .int .u64 c ∧ s29 = .int .i64 k ∧ LimbAt xs ys i k os c ∧ Own wr g os ∧ Below w.heap.size w wr
theorem LimbRel.step {xs ys : List Nat} {g i k c : Nat} {os : List Nat} {w wr : World} (hx : okL xs) (hy : okL ys) (hi : i < xs.length) (hk : k < ys.length) (hS : LimbAt xs ys i k os c) (hO : Own wr g os) (hB : Below w.heap.size w wr) (hg : w.heap.size ≤ g) :
    LimbRel xs ys i g w (.int .u64 (((lim xs i : Nat) * (lim ys k : Nat) + (lim os (i + k) : Nat) + (c : Nat) : Int) / 4294967296)) (.int .i64 ((k : Int) + 1)) (wr.setCell ⟨g, i + k, none⟩ (.int .u32 (((lim xs i : Nat) * (lim ys k : Nat) + (lim os (i + k) : Nat) + (c : Nat) : Int) % 4294967296))) := by
  have e0 : ((lim xs i : Nat) * (lim ys k : Nat) + (lim os (i + k) : Nat) + (c : Nat) : Int) = ((lim xs i * lim ys k + lim os (i + k) + c : Nat) : Int) := by rw [Int.natCast_add, Int.natCast_add, Int.natCast_mul]
  have e1 : ((lim xs i * lim ys k + lim os (i + k) + c : Nat) : Int) / 4294967296 = (((lim xs i * lim ys k + lim os (i + k) + c) / B : Nat) : Int) := by rw [B_eq]; omega
  have e2 : ((lim xs i * lim ys k + lim os (i + k) + c : Nat) : Int) % 4294967296 = (((lim xs i * lim ys k + lim os (i + k) + c) % B : Nat) : Int) := by rw [B_eq]; omega
  rw [e0, e1, e2]
  exact ⟨k + 1, _, _, by omega, rfl, by rw [show ((k + 1 : Nat) : Int) = (k : Int) + 1 by omega], hS.succ hx hy hi hk, hO.set (by rw [hS.len]; omega) (Nat.mod_lt _ B_pos), hB.setCell hg _⟩

set_option maxHeartbeats 4000000 in
theorem product_c (A C : Option Addr) (xs ys : List Nat) (c d : Nat) (w : World) (h : Lim w A xs) (k : Lim w C ys) (hl : xs.length ≤ 1048576) (kl : ys.length ≤ 1048576) :
    Calls Try.prog 61 #[.slice A xs.length c, .slice C ys.length d] w (NewL (xs.length + ys.length) (val xs * val ys) w) := by
  have hmk := run_make_row' (P := Try.prog) 22 53 (.int .u32 0) 4 Try.underlying22 info53 rfl .i64 .i64 (xs.length + ys.length) (by omega) (by omega)
  rw [zeros_cells, show ((xs.length + ys.length : Nat) : Int) = (xs.length : Int) + (ys.length : Int) by omega] at hmk
  go_enter Try.func61, Try.ntmps61
  go_wp2
  go_step3
  go_wp2
  go_step3
  go_wp2
  clear hmk
  go_loopw [20] (RowRel xs ys w.heap.size w) (fun s20 _ => ((xs.length : Int) - intOf s20).toNat)
  case atStart => exact ⟨0, _, by omega, rfl, RowAt.start xs ys, Own.zeros w _ 53 _ rfl, (Below.refl _ _).alloc (Nat.le_refl _) _⟩
  case round =>
    obtain ⟨i, os, hi, rfl, hR, hO, hB⟩ := hrel
    by_cases hlt : i < xs.length
    · obtain ⟨x0, x1⟩ := lim_i h.1 i
      obtain ⟨ad, rfl, hxc⟩ := (h.below hB).at_ hlt
      have HR := Lib.hid hR
      have HO := Lib.hid hO
      clear hR hO
      by_cases hz : lim xs i = 0
      · have hb := cast_eq hz
        have HZ := Lib.hid hz; clear hz
        go_wp2
        go_roundw
        case rel => exact ⟨i + 1, os, hlt, by rw [show ((i + 1 : Nat) : Int) = (i : Int) + 1 by omega], HR.out.skip HZ.out, HO.out, hB⟩
        case measure => simp [intOf]; omega
      · have hb := cast_ne hz
        clear hz
        obtain ⟨wo, rfl⟩ : ∃ wo : World, wo = wr := ⟨_, rfl⟩
        go_wp2
        go_loopw [8, 29] (LimbRel xs ys i w.heap.size w) (fun _ s29 _ => ((ys.length : Int) - intOf s29).toNat)
        case atStart => exact ⟨0, os, 0, by omega, rfl, rfl, HR.out.limbs, HO.out, hB⟩
        case round =>
          clear HR HO hxc
          obtain ⟨j, os, cy, hj, rfl, rfl, hS, hO, hB⟩ := hrel
          have hjo : i + j ≤ os.length := by rw [hS.len]; omega
          have hcy : (cy : Int) < 4294967296 := by have := hS.carry; have := B_eq; omega
          by_cases hlt2 : j < ys.length
          · have hjo : i + j < os.length := by rw [hS.len]; omega
            obtain ⟨y0, y1⟩ := lim_i k.1 j
            obtain ⟨o0, o1⟩ := lim_i hS.ok (i + j)
            obtain ⟨p0, p1⟩ := mul_i (lim_lt h.1 i) (lim_lt k.1 j)
            obtain ⟨ad2, rfl, hyc⟩ := (k.below hB).at_ hlt2
            have hcell := hO.cell hjo
            have hfro := hO.frozen (i + j)
            have eij : ((i : Int) + (j : Int)).toNat = i + j := by omega
            have hij : (i : Int) + (j : Int) < (xs.length : Int) + (ys.length : Int) := by omega
            have HS := Lib.hid hS
            have HO := Lib.hid hO
            clear hS hO hjo
            go_wp2
            go_roundw
            case rel => exact LimbRel.step h.1 k.1 hlt hlt2 HS.out HO.out hB (Nat.le_refl _)
            case measure => simp [intOf]; omega
          · obtain rfl : j = ys.length := by omega
            have hjo : i + ys.length < os.length := by rw [hS.len]; omega
            have hcell := hO.cell hjo
            have hfro := hO.frozen (i + ys.length)
            have eij : ((i : Int) + (ys.length : Int)).toNat = i + ys.length := by omega
            have hij : (i : Int) + (ys.length : Int) < (xs.length : Int) + (ys.length : Int) := by omega
            have HS := Lib.hid hS
            have HO := Lib.hid hO
            clear hS hO hjo
            go_wp2
            go_roundw
            case rel => exact ⟨i + 1, _, hlt, by rw [show ((i + 1 : Nat) : Int) = (i : Int) + 1 by omega], HS.out.row hlt, HO.out.set (by rw [HS.out.len]; omega) HS.out.carry, hB.setCell (Nat.le_refl _) _⟩
            case measure => simp [intOf]; omega
    · obtain rfl : i = xs.length := by omega
      have HV := Lib.hid hR.done
      have HO := Lib.hid hO
      have HL := Lib.hid hR.len
      clear hR hO
      go_wp2
      rw [Exit.noGoto_ret]
      go_ret
      exact ⟨w.heap.size, os, by rw [HL.out]; rfl, Nat.le_refl _, HO.out, HV.out, by rw [HL.out]; exact Nat.le_refl _, hB⟩
end Go.Proofs.Ythaokkmbghgopaa
