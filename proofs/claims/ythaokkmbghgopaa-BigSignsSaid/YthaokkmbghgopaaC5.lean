/- Contract: subtract. -/
import Derived.Test.YthaokkmbghgopaaC4
namespace Go.Proofs.Ythaokkmbghgopaa
open Go.RowKit


theorem Lim.grown' {w w' : World} {A : Option Addr} {xs : List Nat} (h : Lim w A xs) {row : Option Nat} (hg : w.grownBy w' row) (hr : 0 < xs.length → ∀ ad, A = some ad → some ad.block ≠ row) : Lim w' A xs := by
  by_cases h0 : 0 < xs.length
  · exact h.grown hg (hr h0)
  · have : xs = [] := List.eq_nil_of_length_eq_zero (by omega)
    subst this
    exact Lim.nil
/-- Of old memory block g alone may have turned: it holds os now. -/
def Subbed (g : Nat) (xs ys : List Nat) (w : World) (e : Ending) (w' : World) : Prop :=
  ∃ os, e = .returned (.tuple #[]) ∧ Own w' g os ∧ val os + val ys = val xs ∧ os.length = xs.length ∧ w.grownBy w' (some g)
def SubRel (xs ys : List Nat) (g : Nat) (w : World) (s4 s9 : Value) (wr : World) : Prop :=
  ∃ (k : Nat) (os : List Nat) (c : Nat), k ≤ xs.length ∧ s4 = .int .u64 c ∧ s9 = .int .i64 k ∧ SubAt xs ys k os c ∧ Own wr g os ∧ w.grownBy wr (some g)
theorem SubRel.step {xs ys : List Nat} {g k c n : Nat} {os : List Nat} {w wr : World} (hx : okL xs) (hy : okL ys) (hk : k < xs.length) (hS : SubAt xs ys k os c) (hO : Own wr g os) (hB : w.grownBy wr (some g)) :
    SubRel xs ys g w (.int .u64 (1 - (4294967296 + (lim xs k : Nat) - (lim ys k : Nat) - (c : Nat) : Int) / 4294967296)) (.int .i64 ((k : Int) + 1)) ((wr.drewN n).setCell ⟨g, k, none⟩ (.int .u32 ((4294967296 + (lim xs k : Nat) - (lim ys k : Nat) - (c : Nat) : Int) % 4294967296))) := by
  have hc := hS.carry
  have x1 := lim_lt hx k
  have y1 := lim_lt hy k
  have eB := B_eq
  have e0 : (4294967296 + (lim xs k : Nat) - (lim ys k : Nat) - (c : Nat) : Int) = ((B + lim xs k - lim ys k - c : Nat) : Int) := by omega
  have e1 : 1 - ((B + lim xs k - lim ys k - c : Nat) : Int) / 4294967296 = ((1 - (B + lim xs k - lim ys k - c) / B : Nat) : Int) := by
    have : (B + lim xs k - lim ys k - c) / B ≤ 1 := by rw [Nat.div_le_iff_le_mul_add_pred B_pos]; omega
    have h2 : ((B + lim xs k - lim ys k - c : Nat) : Int) / 4294967296 = (((B + lim xs k - lim ys k - c) / B : Nat) : Int) := by rw [B_eq]; omega
    rw [h2]; omega
  have e2 : ((B + lim xs k - lim ys k - c : Nat) : Int) % 4294967296 = (((B + lim xs k - lim ys k - c) % B : Nat) : Int) := by rw [B_eq]; omega
  rw [e0, e1, e2]
  exact ⟨k + 1, _, _, by omega, rfl, by rw [show ((k + 1 : Nat) : Int) = (k : Int) + 1 by omega], hS.succ hx hy hk, (hO.drewN n).set (by rw [hS.len]; exact hk) (Nat.mod_lt _ B_pos), grown_trans (grown_drewN hB n) (grown_set _ _ _ _)⟩

set_option maxHeartbeats 1000000 in
theorem subtract_c (g : Nat) (C : Option Addr) (xs ys : List Nat) (c d : Nat) (w : World) (h : Own w g xs) (k : Lim w C ys) (hne : 0 < ys.length → ∀ ad, C = some ad → ad.block ≠ g) (hle : val ys ≤ val xs) (hl : xs.length ≤ 1048576) :
    Calls Try.prog 56 #[.slice (some ⟨g, 0, none⟩) xs.length c, .slice C ys.length d] w (Subbed g xs ys w) := by
  go_enter Try.func56, Try.ntmps56
  go_wp2
  go_step3
  go_wp2
  go_step3
  go_wp2
  go_loopw [4, 9] (SubRel xs ys g w) (fun _ s9 _ => ((xs.length : Int) - intOf s9).toNat)
  case atStart => exact ⟨0, xs, 0, by omega, rfl, rfl, SubAt.zero ys h.1, h, grown_refl w _⟩
  case round =>
    obtain ⟨j, os, cy, hj, rfl, rfl, hS, hO, hB⟩ := hrel
    by_cases hlt2 : j < xs.length
    · have hC : Lim wr C ys := k.grown' hB (fun h0 ad e => by simpa using hne h0 ad e)
      by_cases hst : ys.length ≤ j ∧ cy = 0
      · obtain ⟨q1, rfl⟩ := hst
        have HD := Lib.hid (hS.stop q1)
        have HO := Lib.hid hO
        have HL := Lib.hid hS.len
        have b1 : decide (ys.length ≤ j) = true := by simpa using q1
        clear hS hO
        go_wp2
        show bodyPost _ _ _ Exit.normal _ _
        go_end0
        exact ⟨os, rfl, HO.out, HD.out, HL.out, hB⟩
      · obtain ⟨x0, x1⟩ := lim_i h.1 j
        obtain ⟨y0, y1⟩ := lim_i k.1 j
        have hcy : (cy : Int) ≤ 1 := by have := hS.carry; omega
        have hjo : j < os.length := by rw [hS.len]; exact hlt2
        have hlx : lim os j = lim xs j := lim_rest (hS.rest j (Nat.le_refl _))
        have hcell := hO.cell hjo
        rw [hlx] at hcell
        have hfro := hO.frozen j
        have HS := Lib.hid hS
        have HO := Lib.hid hO
        have HJ := Lib.hid hjo
        clear hS hO hlx hjo
        have hst' : decide (ys.length ≤ j) = false ∨ decide (ys.length ≤ j) = true ∧ ((cy : Int) == 0) = false := by
          by_cases q : ys.length ≤ j
          · exact .inr ⟨by simpa using q, by simp; omega⟩
          · exact .inl (by simpa using q)
        clear hst
        rcases hst' with q | ⟨q, q2⟩
        all_goals
          go_wp2
          go_quiet ((go_at_call 75; exact Calls.quiet_of_same ((limb_c C ys d j _ (hC.drewN _)).mono fun _ _ ⟨a, b⟩ => ⟨a, b.symm⟩)))
          go_wp2
          go_roundw
          case rel => exact SubRel.step h.1 k.1 hlt2 HS.out HO.out hB
          case measure => simp [intOf]; omega
    · obtain rfl : j = xs.length := by omega
      have HD := Lib.hid (hS.done h.1 hle)
      have HO := Lib.hid hO
      have HL := Lib.hid hS.len
      clear hS hO
      go_wp2
      show bodyPost _ _ _ Exit.normal _ _
      go_end0
      exact ⟨os, rfl, HO.out, HD.out, HL.out, hB⟩
end Go.Proofs.Ythaokkmbghgopaa
