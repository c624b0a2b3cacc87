/- Contract: divide. -/
import Derived.Deep.OwnRows
import Derived.Test.YthaokkmbghgopaaC7
namespace Go.Proofs.Ythaokkmbghgopaa
open Go.RowKit


theorem grow_i (g : Nat) (xs : List Nat) (n c q m : Nat) (qi mi : Int) (w : World) (h : Own w g xs) (hn : n = xs.length) (hqi : qi = q) (hmi : mi = m) (hq : q < B) (hm : m < B) (hl : xs.length ≤ 1048576) :
    Calls Try.prog 80 #[.slice (some ⟨g, 0, none⟩) n c, .int .u32 qi, .int .u32 mi] w (Grown g xs q m w) := by
  subst hn hqi hmi
  exact grow_c g xs c q m w h hq hm hl
theorem cmpI_ge {a b : Nat} (h : b ≤ a) : ∃ z : Int, cmpI a b = z ∧ 0 ≤ z := by
  rcases Nat.lt_or_ge b a with h1 | h1
  · exact ⟨1, cmpI_gt h1, by decide⟩
  · exact ⟨0, cmpI_eq (by omega), by decide⟩
theorem orbit_i {l b : Nat} (hl : l < B) (hb : b < 32) : (0 : Int) ≤ 2 ^ b ∧ (2 : Int) ^ b < 4294967296 ∧ bits BinOp.or IntKind.u32 (l : Int) (2 ^ b) = ((l ||| 2 ^ b : Nat) : Int) := by
  have e : (2 : Int) ^ b = ((2 ^ b : Nat) : Int) := by rw [Int.natCast_pow]; rfl
  have h2 : 2 ^ b < 4294967296 := Nat.pow_lt_pow_right (by decide : 1 < 2) hb
  rw [e, u32_or_nat l (2 ^ b) hl h2]
  exact ⟨Int.natCast_nonneg _, Int.ofNat_lt.2 h2, rfl⟩
theorem Own.zeros' (w : World) (g n : Nat) (t : TypeId) (cs : Array Value) (hc : cs = Array.replicate n (.int .u32 0)) (hg : g = w.heap.size) : Own (w.alloc (.cells cs t)) g (List.replicate n 0) := by
  subst hg
  exact Own.zeros w n t cs hc
theorem compare_i (A C : Option Addr) (xs ys : List Nat) (n c d : Nat) (w : World) (h : Lim w A xs) (k : Lim w C ys) (hn : n = xs.length) (hl : xs.length ≤ 1152921504606846976) (kl : ys.length ≤ 1152921504606846976) :
    Calls Try.prog 54 #[.slice A n c, .slice C ys.length d] w fun e w' => e = .returned (.int .i64 (cmpI (val xs) (val ys))) ∧ w = w' := by
  subst hn
  exact compare_c A C xs ys c d w h k hl kl
theorem subtract_i (g : Nat) (C : Option Addr) (xs ys : List Nat) (n c d : Nat) (w : World) (h : Own w g xs) (k : Lim w C ys) (hn : n = xs.length) (hne : 0 < ys.length → ∀ ad, C = some ad → ad.block ≠ g) (hle : val ys ≤ val xs) (hl : xs.length ≤ 1048576) :
    Calls Try.prog 56 #[.slice (some ⟨g, 0, none⟩) n c, .slice C ys.length d] w (Subbed g xs ys w) := by
  subst hn
  exact subtract_c g C xs ys c d w h k hne hle hl
theorem bit_i {l b : Nat} (h : l < B) : bits BinOp.and IntKind.u32 ((l : Int) / 2 ^ b) 1 = ((l / 2 ^ b % 2 : Nat) : Int) := by
  have e : (l : Int) / 2 ^ b = ((l / 2 ^ b : Nat) : Int) := by rw [Int.natCast_ediv, Int.natCast_pow]; rfl
  have hlt : l / 2 ^ b < 4294967296 := Nat.lt_of_le_of_lt (Nat.div_le_self _ _) h
  have h2 := u32_and_nat (l / 2 ^ b) 1 hlt (by omega)
  rw [e, show (1 : Int) = ((1 : Nat) : Int) from rfl, h2, Nat.and_one_is_mod]
theorem grow_zero {n R b Y c V : Nat} (h : V + B ^ (n + 1) * c = R * 2 + b) (hb : b < 2) (hR : R < Y) (hY : Y ≤ B ^ n) : V = 2 * R + b := by
  have hc : c = 0 := by
    rcases Nat.eq_zero_or_pos c with hz | hz
    · exact hz
    · have h1 := Nat.le_mul_of_pos_right (B ^ (n + 1)) hz
      have h2 : B ^ n * 2 ≤ B ^ (n + 1) := by rw [Nat.pow_succ]; exact Nat.mul_le_mul_left _ (by decide)
      omega
  subst hc
  omega
def DivRel (xs ys : List Nat) (g : Nat) (w : World) (s6 : Value) (wr : World) : Prop :=
  ∃ (j Q R : Nat) (os rs : List Nat), j ≤ xs.length * 32 ∧ s6 = .int .i64 (j - 1 : Int) ∧ DivAt (val xs) (val ys) j Q R ∧ Own wr g os ∧ os.length = xs.length ∧ val os = 2 ^ j * Q ∧ Own wr (g + 1) rs ∧ rs.length = ys.length + 1 ∧ val rs = R ∧ Below w.heap.size w wr
/-- Two new slices: the quotient, the rest. -/
def NewQR (L M Q R : Nat) (w : World) (e : Ending) (w' : World) : Prop :=
  ∃ (os rs : List Nat), e = .returned (.tuple #[.slice (some ⟨w.heap.size, 0, none⟩) os.length os.length, .slice (some ⟨w.heap.size + 1, 0, none⟩) rs.length rs.length]) ∧ Own w' w.heap.size os ∧ Own w' (w.heap.size + 1) rs ∧ val os = Q ∧ val rs = R ∧ os.length ≤ L ∧ rs.length ≤ M ∧ Below w.heap.size w w'

set_option maxHeartbeats 4000000 in
theorem divide_c (A C : Option Addr) (xs ys : List Nat) (c d : Nat) (w : World) (h : Lim w A xs) (k : Lim w C ys) (hl : xs.length ≤ 1024) (kl : ys.length ≤ 1024) (hy : 0 < val ys) :
    Calls Try.prog 65 #[.slice A xs.length c, .slice C ys.length d] w (NewQR xs.length (ys.length + 1) (val xs / val ys) (val xs % val ys) w) := by
  have hmk := run_make_row' (P := Try.prog) 22 53 (.int .u32 0) 4 Try.underlying22 info53 rfl .i64 .i64 xs.length (by omega) (by omega)
  have hmk2 := run_make_row' (P := Try.prog) 22 53 (.int .u32 0) 4 Try.underlying22 info53 rfl .i64 .i64 (ys.length + 1) (by omega) (by omega)
  rw [zeros_cells] at hmk
  rw [zeros_cells, show ((ys.length + 1 : Nat) : Int) = (ys.length : Int) + 1 by omega] at hmk2
  obtain ⟨ady, rfl, hyb, _⟩ := k.2 (by rcases ys with _ | ⟨y, ys⟩; exact absurd hy (by simp [val]); simp)
  go_enter Try.func65, Try.ntmps65
  go_wp2
  go_step3
  go_wp2
  go_step3
  go_wp2
  clear hmk hmk2
  go_loopw [6] (DivRel xs ys w.heap.size w) (fun s6 _ => (intOf s6 + 1).toNat)
  case atStart =>
    refine ⟨xs.length * 32, 0, 0, _, _, Nat.le_refl _, by rw [show ((xs.length * 32 : Nat) : Int) = (xs.length : Int) * 32 by omega], DivAt.top ?_ hy, (Own.zeros w _ 53 _ rfl).alloc _, by simp, by rw [val_zeros, Nat.mul_zero], Own.zeros' _ _ _ _ _ rfl (by simp), by simp, val_zeros _, ((Below.refl _ _).alloc (Nat.le_refl _) _).alloc (by simp) _⟩
    rw [Nat.mul_comm, ← pow_bits]
    exact val_lt h.1
  case round =>
    obtain ⟨j, Q, R, os, rs, hj, rfl, hD, hO, hol, hoq, hR, hrl, hrr, hB⟩ := hrel
    rcases j with _ | i
    · obtain ⟨hq, hr⟩ := hD.done
      have HQ : Hid (val os = val xs / val ys) := Lib.hid (by rw [hoq, hq]; simp)
      have HR2 : Hid (val rs = val xs % val ys) := Lib.hid (by rw [hrr, hr])
      have HO := Lib.hid hO
      have HR := Lib.hid hR
      have HOL := Lib.hid hol
      have HRL := Lib.hid hrl
      clear hD hO hR hol hoq hrl hrr hq hr
      go_wp2
      rw [Exit.noGoto_ret]
      go_ret2
      exact ⟨os, rs, by rw [HOL.out, HRL.out]; rfl, HO.out, HR.out, HQ.out, HR2.out, by rw [HOL.out]; exact Nat.le_refl _, by rw [HRL.out]; exact Nat.le_refl _, hB⟩
    · rw [show ((i + 1 : Nat) : Int) - 1 = i by omega]
      have hix : i / 32 < xs.length := by omega
      obtain ⟨ad, rfl, hxc⟩ := (h.below hB).at_ hix
      have ei : ((i : Int) / 32).toNat = i / 32 := by omega
      have ei1 : (i : Int) / 32 < (xs.length : Int) := by omega
      obtain ⟨x0, x1⟩ := lim_i h.1 (i / 32)
      have HB := Lib.hid (bit_of h.1 i)
      have HD := Lib.hid hD
      have HO := Lib.hid hO
      have HR := Lib.hid hR
      have HOL := Lib.hid hol
      have HOQ := Lib.hid hoq
      have HRL := Lib.hid hrl
      have HRR := Lib.hid hrr
      clear hD hO hR hol hoq hrl hrr
      go_wp2_with fail
      refine (grow_i _ _ _ _ 2 (lim xs (i / 32) / 2 ^ (i % 32) % 2) _ _ _ HR.out HRL.out.symm rfl (bit_i (lim_lt h.1 _)) (by decide) (by have := B_eq; omega) (by have := HRL.out; omega)).mono ?_
      rintro e w1 ⟨rs1, cy, rfl, hR1, hv1, hl1, hc1, hg1⟩
      have HV1 : Hid (val rs1 = 2 * R + val xs / 2 ^ i % 2) := Lib.hid (by
        rw [HRL.out, HRR.out] at hv1
        have := grow_zero hv1 (Nat.mod_lt _ (by decide)) HD.out.lt (Nat.le_of_lt (val_lt k.1))
        rw [this, HB.out])
      have hC1 : Lim w1 (some ady) ys := (k.below hB).grown hg1 (fun ad e => by injection e with e; subst e; simp; omega)
      have HB1 := Lib.hid (hB.grown hg1 hB.size (fun k e => by injection e with e; omega))
      have HO1 := Lib.hid (HO.out.grown hg1 (by simp))
      have HL1 : Hid (rs1.length = ys.length + 1) := Lib.hid (by rw [hl1, HRL.out])
      have HR1 := Lib.hid hR1
      clear hv1 hl1 hc1 hg1 hR1
      rcases Nat.lt_or_ge (val rs1) (val ys) with hlt | hge
      · have HE := Lib.hid (cmpI_lt hlt)
        have HLT := Lib.hid hlt
        clear hlt
        go_wp2_with fail
        refine (compare_i _ _ _ _ _ _ _ _ HR1.out.toLim hC1 HL1.out.symm (by rw [HL1.out]; omega) (by omega)).mono ?_
        rintro e w2 ⟨rfl, rfl⟩
        rw [HE.out]
        go_wp2
        go_roundw
        case rel =>
          refine ⟨i, _, _, os, rs1, by omega, rfl, HD.out.low (by rw [← HV1.out]; exact HLT.out), HO1.out, HOL.out, ?_, HR1.out, HL1.out, HV1.out, HB1.out⟩
          rw [HOQ.out, Nat.pow_succ, Nat.mul_assoc]
        case measure => simp [intOf]
      · obtain ⟨z, hz, hz0⟩ := cmpI_ge hge
        have HZ := Lib.hid hz
        have HGE := Lib.hid hge
        clear hge hz
        have hzd : decide (z < 0) = false := by simpa using hz0
        go_wp2_with fail
        refine (compare_i _ _ _ _ _ _ _ _ HR1.out.toLim hC1 HL1.out.symm (by rw [HL1.out]; omega) (by omega)).mono ?_
        rintro e w2 ⟨rfl, rfl⟩
        rw [HZ.out]
        go_wp2_with fail
        refine (subtract_i _ _ _ _ _ _ _ _ HR1.out hC1 HL1.out.symm (fun _ ad e => by injection e with e; subst e; omega) HGE.out (by rw [HL1.out]; omega)).mono ?_
        rintro e w2 ⟨rs2, rfl, hR2, hv2, hl2, hg2⟩
        have hV2 : val rs2 = 2 * R + val xs / 2 ^ i % 2 - val ys := by have := HV1.out; omega
        have HO2 := HO1.out.grown hg2 (by simp)
        have hoi : i / 32 < os.length := by rw [HOL.out]; exact hix
        have hcell := HO2.cell hoi
        have hfro := HO2.frozen (i / 32)
        obtain ⟨hs1, hs2⟩ := set_bit HO1.out.1 hoi HOQ.out
        obtain ⟨b0, b1, b2⟩ := orbit_i (b := i % 32) (lim_lt HO1.out.1 (i / 32)) (Nat.mod_lt _ (by decide))
        have HB2 := Lib.hid (HB1.out.grown hg2 HB1.out.size (fun k e => by injection e with e; omega))
        have HO3 := Lib.hid HO2
        have HS1 := Lib.hid hs1
        have HS2 := Lib.hid hs2
        have HR2 := Lib.hid hR2
        have HV2 := Lib.hid hV2
        have HL2 : Hid (rs2.length = ys.length + 1) := Lib.hid (by rw [hl2, HL1.out])
        clear hv2 hl2 hg2 HO2 hs1 hs2 hR2 hV2 hoi
        go_wp2
        go_region
        all_goals
          go_wp2
          go_roundw
          case rel => exact ⟨i, _, _, _, rs2, by omega, rfl, HD.out.high (by rw [← HV1.out]; exact HGE.out), (HO3.out.set (by rw [HOL.out]; exact hix) HS2.out).drew, by rw [List.length_set]; exact HOL.out, HS1.out, (HR2.out.far (by simp) _).drew, HL2.out, HV2.out, (HB2.out.setCell (Nat.le_refl _) _).drew⟩
          case measure => simp [intOf]
end Go.Proofs.Ythaokkmbghgopaa
