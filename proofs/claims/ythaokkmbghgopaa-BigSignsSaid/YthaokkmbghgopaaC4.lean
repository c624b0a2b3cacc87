/- Contract: sum. -/
import Derived.Deep.OwnRows
import Derived.Test.YthaokkmbghgopaaC3
namespace Go.Proofs.Ythaokkmbghgopaa
open Go.RowKit


theorem info53 : (Try.prog.info? 53).map (fun i => (i.zero, i.size, i.bytes)) = some (some (.int .u32 0), 1, 4) := by kernel_rfl
/-- A new slice of at most L limbs, with the number V. -/
def NewL (L V : Nat) (w : World) (e : Ending) (w' : World) : Prop :=
  ∃ (g : Nat) (os : List Nat), e = .returned (.slice (some ⟨g, 0, none⟩) os.length os.length) ∧ w.heap.size ≤ g ∧ Own w' g os ∧ val os = V ∧ os.length ≤ L ∧ Below w.heap.size w w'
theorem zeros_cells (n : Nat) : madeCells #[.int .u32 0] n = Array.replicate n (.int .u32 0) := by
  apply Array.ext'
  rw [toList_madeCells_one]
  simp
theorem lim_i {xs : List Nat} (h : okL xs) (k : Nat) : (0 : Int) ≤ (lim xs k : Nat) ∧ ((lim xs k : Nat) : Int) < 4294967296 := by
  have := lim_lt h k
  have e := B_eq
  omega
theorem set_here {os : List Nat} {k n v : Nat} (h : os.length = k) (hk : k < n) : (os ++ List.replicate (n - k) 0).set k v = (os ++ [v]) ++ List.replicate (n - (k + 1)) 0 := by
  have e : n - k = (n - (k + 1)) + 1 := by omega
  rw [e, List.replicate_succ, List.set_append_right _ _ (by omega), h, Nat.sub_self, List.set_cons_zero]
  simp
def SumRel (xs ys : List Nat) (g n : Nat) (w : World) (s6 s18 : Value) (wr : World) : Prop :=
  ∃ (k : Nat) (os : List Nat) (c : Nat), k ≤ n ∧ s6 = .int .u64 c ∧ s18 = .int .i64 k ∧ SumAt xs ys k os c ∧ Own wr g (os ++ List.replicate (n - k) 0) ∧ Below w.heap.size w wr
theorem SumRel.step {xs ys : List Nat} {g n k c : Nat} {os : List Nat} {w wr : World} (hx : okL xs) (hy : okL ys) (hk : k < n) (hS : SumAt xs ys k os c) (hO : Own wr g (os ++ List.replicate (n - k) 0)) (hB : Below w.heap.size w wr) (hg : w.heap.size ≤ g) :
    SumRel xs ys g n w (.int .u64 (((lim xs k : Nat) + (lim ys k : Nat) + (c : Nat) : Int) / 4294967296)) (.int .i64 ((k : Int) + 1)) (wr.setCell ⟨g, k, none⟩ (.int .u32 (((lim xs k : Nat) + (lim ys k : Nat) + (c : Nat) : Int) % 4294967296))) := by
  have e1 : (((lim xs k : Nat) + (lim ys k : Nat) + (c : Nat) : Int) / 4294967296) = (((lim xs k + lim ys k + c) / B : Nat) : Int) := by rw [B_eq]; omega
  have e2 : (((lim xs k : Nat) + (lim ys k : Nat) + (c : Nat) : Int) % 4294967296) = (((lim xs k + lim ys k + c) % B : Nat) : Int) := by rw [B_eq]; omega
  rw [e1, e2]
  refine ⟨k + 1, _, _, by omega, rfl, by rw [show ((k + 1 : Nat) : Int) = (k : Int) + 1 by omega], hS.succ hx hy, ?_, hB.setCell hg _⟩
  rw [← set_here hS.len hk]
  exact hO.set (by rw [List.length_append, List.length_replicate, hS.len]; omega) (Nat.mod_lt _ B_pos)

set_option maxHeartbeats 1000000 in
theorem sum_c (A C : Option Addr) (xs ys : List Nat) (c d : Nat) (w : World) (h : Lim w A xs) (k : Lim w C ys) (hl : xs.length ≤ 1048576) (kl : ys.length ≤ 1048576) :
    Calls Try.prog 53 #[.slice A xs.length c, .slice C ys.length d] w (NewL (max xs.length ys.length + 1) (val xs + val ys) w) := by
  by_cases hlt : xs.length < ys.length
  · have hM : max xs.length ys.length = ys.length := by omega
    have h1 : xs.length < ys.length + 1 := by omega
    have h2 : ys.length < ys.length + 1 := by omega
    have hmk := run_make_row' (P := Try.prog) 22 53 (.int .u32 0) 4 Try.underlying22 info53 rfl .i64 .i64 (ys.length + 1) (by omega) (by omega)
    rw [zeros_cells, show ((ys.length + 1 : Nat) : Int) = (ys.length : Int) + 1 by omega] at hmk
    rw [hM]
    clear hM
    go_enter Try.func53, Try.ntmps53
    go_wp2
    clear hmk
    go_loopw [6, 18] (SumRel xs ys w.heap.size (ys.length + 1) w) (fun _ s18 _ => ((ys.length : Int) + 1 - intOf s18).toNat)
    case atStart => exact ⟨0, [], 0, by omega, rfl, rfl, SumAt.zero xs ys, Own.zeros w _ 53 _ rfl, (Below.refl _ _).alloc (Nat.le_refl _) _⟩
    case round =>
      obtain ⟨j, os, cy, hj, rfl, rfl, hS, hO, hB⟩ := hrel
      by_cases hlt2 : j < ys.length + 1
      · have hA : Lim wr A xs := h.below hB
        have hC : Lim wr C ys := k.below hB
        obtain ⟨x0, x1⟩ := lim_i h.1 j
        obtain ⟨y0, y1⟩ := lim_i k.1 j
        have hcy : (cy : Int) ≤ 1 := by have := hS.carry; omega
        have hlen : j < (os ++ List.replicate (ys.length + 1 - j) 0).length := by rw [List.length_append, List.length_replicate, hS.len]; omega
        have hcell := hO.cell hlen
        have hfro := hO.frozen j
        have HS := Lib.hid hS
        have HO := Lib.hid hO
        have HL := Lib.hid hlen
        clear hS hO hlen
        have hjl : (j : Int) < (ys.length : Int) + 1 := by omega
        go_wp2_with (first | (go_at_call_of 75 (Value.slice A xs.length c); refine (limb_c A xs c j _ (by exact hA)).mono ?_; rintro e w1 ⟨rfl, rfl⟩) | (go_at_call_of 75 (Value.slice C ys.length d); refine (limb_c C ys d j _ (by exact hC)).mono ?_; rintro e w1 ⟨rfl, rfl⟩))
        go_roundw
        case rel => exact SumRel.step h.1 k.1 hlt2 HS.out HO.out hB (Nat.le_refl _)
        case measure => simp [intOf]; omega
      · obtain rfl : j = ys.length + 1 := by omega
        obtain ⟨hv, _⟩ := hS.done h.1 k.1 h1 h2
        have HL := Lib.hid hS.len
        have HV := Lib.hid hv
        have HO : Hid (Own wr w.heap.size os) := Lib.hid (by simpa using hO)
        clear hS hO hv
        go_wp2
        go_ret
        exact ⟨w.heap.size, os, by rw [HL.out]; rfl, Nat.le_refl _, HO.out, HV.out, by rw [HL.out]; exact Nat.le_refl _, hB⟩
  · have hM : max xs.length ys.length = xs.length := by omega
    have h1 : xs.length < xs.length + 1 := by omega
    have h2 : ys.length < xs.length + 1 := by omega
    have hmk := run_make_row' (P := Try.prog) 22 53 (.int .u32 0) 4 Try.underlying22 info53 rfl .i64 .i64 (xs.length + 1) (by omega) (by omega)
    rw [zeros_cells, show ((xs.length + 1 : Nat) : Int) = (xs.length : Int) + 1 by omega] at hmk
    rw [hM]
    clear hM
    go_enter Try.func53, Try.ntmps53
    go_wp2
    clear hmk
    go_loopw [6, 18] (SumRel xs ys w.heap.size (xs.length + 1) w) (fun _ s18 _ => ((xs.length : Int) + 1 - intOf s18).toNat)
    case atStart => exact ⟨0, [], 0, by omega, rfl, rfl, SumAt.zero xs ys, Own.zeros w _ 53 _ rfl, (Below.refl _ _).alloc (Nat.le_refl _) _⟩
    case round =>
      obtain ⟨j, os, cy, hj, rfl, rfl, hS, hO, hB⟩ := hrel
      by_cases hlt2 : j < xs.length + 1
      · have hA : Lim wr A xs := h.below hB
        have hC : Lim wr C ys := k.below hB
        obtain ⟨x0, x1⟩ := lim_i h.1 j
        obtain ⟨y0, y1⟩ := lim_i k.1 j
        have hcy : (cy : Int) ≤ 1 := by have := hS.carry; omega
        have hlen : j < (os ++ List.replicate (xs.length + 1 - j) 0).length := by rw [List.length_append, List.length_replicate, hS.len]; omega
        have hcell := hO.cell hlen
        have hfro := hO.frozen j
        have HS := Lib.hid hS
        have HO := Lib.hid hO
        have HL := Lib.hid hlen
        clear hS hO hlen
        have hjl : (j : Int) < (xs.length : Int) + 1 := by omega
        go_wp2_with (first | (go_at_call_of 75 (Value.slice A xs.length c); refine (limb_c A xs c j _ (by exact hA)).mono ?_; rintro e w1 ⟨rfl, rfl⟩) | (go_at_call_of 75 (Value.slice C ys.length d); refine (limb_c C ys d j _ (by exact hC)).mono ?_; rintro e w1 ⟨rfl, rfl⟩))
        go_roundw
        case rel => exact SumRel.step h.1 k.1 hlt2 HS.out HO.out hB (Nat.le_refl _)
        case measure => simp [intOf]; omega
      · obtain rfl : j = xs.length + 1 := by omega
        obtain ⟨hv, _⟩ := hS.done h.1 k.1 h1 h2
        have HL := Lib.hid hS.len
        have HV := Lib.hid hv
        have HO : Hid (Own wr w.heap.size os) := Lib.hid (by simpa using hO)
        clear hS hO hv
        go_wp2
        go_ret
        exact ⟨w.heap.size, os, by rw [HL.out]; rfl, Nat.le_refl _, HO.out, HV.out, by rw [HL.out]; exact Nat.le_refl _, hB⟩
end Go.Proofs.Ythaokkmbghgopaa
