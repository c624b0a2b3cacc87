/- Contracts of big's smallest functions. Contracts of big's smallest functions. Contracts: isZero, compare. Contract: sum. Contract: subtract. Contracts: grow, shrink. Contract: product. Contract: divide. Contracts: split, power, cut. Contracts: made, fitting, below, May, valid. Contracts: below, May, valid. big: sum, subtract, product, divide, fitting. -/
import Derived.WalkKit
import Derived.WalkSpells
import Derived.WalkLawsBesides
import Derived.Handy
import Derived.Deep.RegionHeld3
import Derived.Deep.DeepCutAuto
import Derived.Deep.QuietTactic
import Derived.BigQuiet
import Derived.Lib.Hide
import Derived.KernelRfl
import Derived.WalkMore
import Derived.Deep.LoopGhost
import Derived.Test.YtgljfgkkolfnbaaGreatDoorProg
import Derived.Test.YtgljfgkkolfnbaaGreatDoorGX
import Derived.Test.YtgljfgkkolfnbaaGreatDoorBA
import Derived.Deep.OwnRows
namespace Go.Proofs.YtgljfgkkolfnbaaGreatDoor.Bg
open Go.RowKit


theorem limb_c (A : Option Addr) (xs : List Nat) (c k : Nat) (w : World) (h : Lim w A xs) :
    Calls Tryz.prog 192 #[.slice A xs.length c, .int .i64 k] w fun e w' => e = .returned (.int .u32 (lim xs k : Nat)) ∧ w = w' := by
  by_cases hlt : k < xs.length
  · obtain ⟨ad, rfl, hc⟩ := h.at_ hlt
    go_enter Tryz.func192, Tryz.ntmps192
    go_wp2
    go_ret
    exact ⟨rfl, rfl⟩
  · rw [lim_out (by omega)]
    go_enter Tryz.func192, Tryz.ntmps192
    go_wp2
    go_ret
    exact ⟨rfl, rfl⟩
end Go.Proofs.YtgljfgkkolfnbaaGreatDoor.Bg

namespace Go.Proofs.YtgljfgkkolfnbaaGreatDoor.Bg
open Go.RowKit


/-- The limbs from k on are zeros. -/
def Zer (xs : List Nat) (k : Nat) : Prop := ∀ i, k ≤ i → i < xs.length → xs[i]? = some 0
theorem Zer.all (xs : List Nat) : Zer xs xs.length := fun i h1 h2 => absurd h2 (by omega)
theorem Zer.down {xs : List Nat} {k : Nat} (h : Zer xs (k + 1)) (hz : lim xs k = 0) : Zer xs k := fun i h1 h2 => by
  by_cases e : i = k
  · subst e
    rw [List.getElem?_eq_getElem h2, ← lim_in h2, hz]
  · exact h i (by omega) h2
theorem trim_k {xs : List Nat} {k : Nat} (ho : okL xs) (hk : k ≤ xs.length) (h : Zer xs k) (ht : k = 0 ∨ lim xs (k - 1) ≠ 0) : xs.take k = dig (val xs) := dig_take ho h ht hk
theorem cast_ne {a : Nat} (h : a ≠ 0) : ((a : Int) == 0) = false := by simpa using h
theorem cast_eq {a : Nat} (h : a = 0) : ((a : Int) == 0) = true := by subst h; rfl

set_option maxHeartbeats 1000000 in
theorem trim_c (A : Option Addr) (xs : List Nat) (c : Nat) (w : World) (h : Lim w A xs) (hl : xs.length ≤ c) (hc : c ≤ 9223372036854775807) :
    Calls Tryz.prog 158 #[.slice A xs.length c] w fun e w' => e = .returned (.slice A (dig (val xs)).length c) ∧ w = w' := by
  go_enter Tryz.func158, Tryz.ntmps158
  go_wp2
  go_loop [3] (fun s => ∃ k : Nat, k ≤ xs.length ∧ s = .int .i64 k ∧ Zer xs k) (fun s => (intOf s).toNat)
  case atStart => exact ⟨xs.length, Nat.le_refl _, rfl, Zer.all xs⟩
  case round =>
    obtain ⟨k, hk, rfl, hz⟩ := hrel
    by_cases h0 : 0 < k
    · obtain ⟨ad, rfl, hcell⟩ := h.at_ (k := k - 1) (by omega)
      have e1 : ((k : Int) - 1).toNat = k - 1 := by omega
      by_cases hv : lim xs (k - 1) = 0
      · have hb := cast_eq hv
        go_wp2
        go_round
        case rel => exact ⟨k - 1, by omega, by rw [show ((k - 1 : Nat) : Int) = (k : Int) - 1 by omega], Zer.down (by rw [show k - 1 + 1 = k by omega]; exact hz) hv⟩
        case measure => simp [intOf]; omega
      · have hb := cast_ne hv
        have HK := Lib.hid (trim_k h.1 hk hz (.inr hv))
        have HL : Hid ((dig (val xs)).length = k) := by rw [← HK.out, List.length_take, Nat.min_eq_left hk]; exact rfl
        go_wp2
        go_ret
        exact ⟨by rw [HL.out]; rfl, rfl⟩
    · obtain rfl : k = 0 := by omega
      have HK := Lib.hid (trim_k h.1 hk hz (.inl rfl))
      have HL : Hid ((dig (val xs)).length = 0) := by rw [← HK.out, List.length_take, Nat.min_eq_left hk]; exact rfl
      go_wp2
      go_ret
      exact ⟨by rw [HL.out]; rfl, rfl⟩
end Go.Proofs.YtgljfgkkolfnbaaGreatDoor.Bg

namespace Go.Proofs.YtgljfgkkolfnbaaGreatDoor.Bg
open Go.RowKit


theorem trim_ex (xs : List Nat) : ∀ k, k ≤ xs.length → Zer xs k → ∃ j, j ≤ k ∧ Zer xs j ∧ (j = 0 ∨ lim xs (j - 1) ≠ 0)
  | 0, _, h => ⟨0, Nat.le_refl _, h, .inl rfl⟩
  | k + 1, hk, h => by
    by_cases hv : lim xs k = 0
    · obtain ⟨j, h1, h2, h3⟩ := trim_ex xs k (by omega) (h.down hv)
      exact ⟨j, by omega, h2, h3⟩
    · exact ⟨k + 1, Nat.le_refl _, h, .inr (by simpa using hv)⟩
theorem dig_head {xs : List Nat} (ho : okL xs) : xs.take (dig (val xs)).length = dig (val xs) ∧ (dig (val xs)).length ≤ xs.length := by
  obtain ⟨j, h1, h2, h3⟩ := trim_ex xs xs.length (Nat.le_refl _) (Zer.all xs)
  have e := trim_k ho h1 h2 h3
  have el : (dig (val xs)).length = j := by rw [← e, List.length_take, Nat.min_eq_left h1]
  rw [el]
  exact ⟨e, h1⟩
theorem Lim.dig {w : World} {A : Option Addr} {xs : List Nat} (h : Lim w A xs) : Lim w A (dig (val xs)) := by
  rw [← (dig_head h.1).1]
  exact h.take _
theorem dig_len_zero {n : Nat} : (((dig n).length : Int) == 0) = (n == 0) := by
  by_cases h : n = 0
  · subst h; rw [dig_zero]; rfl
  · have e : (dig n).length = (dig (n / B)).length + 1 := by rw [dig_pos h]; rfl
    have e1 : (((dig n).length : Int) == 0) = false := by rw [e]; simp; omega
    have e2 : (n == 0) = false := by simpa using h
    rw [e1, e2]

theorem isZero_c (A : Option Addr) (xs : List Nat) (c : Nat) (w : World) (h : Lim w A xs) (hl : xs.length ≤ c) (hc : c ≤ 9223372036854775807) :
    Calls Tryz.prog 217 #[.slice A xs.length c] w fun e w' => e = .returned (.bool (val xs == 0)) ∧ w = w' := by
  have HZ := Lib.hid (dig_len_zero (n := val xs))
  go_enter Tryz.func217, Tryz.ntmps217
  go_wp2_with (go_at_call 158; refine (trim_c _ _ _ _ h hl hc).mono ?_; rintro e w1 ⟨rfl, rfl⟩)
  go_ret
  exact ⟨by rw [← HZ.out]; rfl, rfl⟩

theorem limb_i (A : Option Addr) (xs : List Nat) (n c : Nat) (i : Int) (k : Nat) (w : World) (h : Lim w A xs) (hn : n = xs.length) (hi : i = k) :
    Calls Tryz.prog 192 #[.slice A n c, .int .i64 i] w fun e w' => e = .returned (.int .u32 (lim xs k : Nat)) ∧ w = w' := by
  subst hi hn
  exact limb_c A xs c k w h

set_option maxHeartbeats 1000000 in
theorem compare_c (A C : Option Addr) (xs ys : List Nat) (c d : Nat) (w : World) (h : Lim w A xs) (k : Lim w C ys) (hl : xs.length ≤ 1152921504606846976) (kl : ys.length ≤ 1152921504606846976) :
    Calls Tryz.prog 154 #[.slice A xs.length c, .slice C ys.length d] w fun e w' => e = .returned (.int .i64 (cmpI (val xs) (val ys))) ∧ w = w' := by
  by_cases hlt : xs.length < ys.length
  all_goals
    go_enter Tryz.func154, Tryz.ntmps154
    go_wp2
    go_step3
    go_wp2
    go_step3
    go_wp2
    go_loop [5] (fun s => ∃ m : Nat, m ≤ 1152921504606846976 ∧ s = .int .i64 (m - 1 : Int) ∧ CmpAt xs ys m) (fun s => (intOf s + 1).toNat)
    case atStart => first | exact ⟨ys.length, kl, rfl, CmpAt.top (by omega) (by omega)⟩ | exact ⟨xs.length, hl, rfl, CmpAt.top (by omega) (by omega)⟩
    case round =>
      obtain ⟨m, hm, rfl, hz⟩ := hrel
      rcases m with _ | m
      · have HE := Lib.hid (cmpI_eq hz.zero)
        go_wp2
        first | rw [Exit.noGoto_ret] | skip
        go_ret
        exact ⟨by rw [HE.out]; rfl, rfl⟩
      · have em : ((m + 1 : Nat) : Int) - 1 = m := by omega
        rw [em]
        rcases Nat.lt_trichotomy (lim xs m) (lim ys m) with hv | hv | hv
        · have HE := Lib.hid (cmpI_lt (hz.less h.1 hv))
          have b1 : ((lim xs m : Int) == (lim ys m : Int)) = false := by simp; omega
          have b2 : decide ((lim xs m : Int) < (lim ys m : Int)) = true := by simp [hv]
          have b3 : decide (lim xs m < lim ys m) = true := by simp [hv]
          go_wp2_with (first | (go_at_call_of 192 (Value.slice A xs.length c); refine (limb_c A xs c m _ h).mono ?_; rintro e w1 ⟨rfl, rfl⟩) | (go_at_call_of 192 (Value.slice C ys.length d); refine (limb_c C ys d m _ k).mono ?_; rintro e w1 ⟨rfl, rfl⟩))
          rw [Exit.noGoto_ret]
          go_ret
          exact ⟨by rw [HE.out]; rfl, rfl⟩
        · have HS := Lib.hid (hz.same hv)
          have b1 : ((lim xs m : Int) == (lim ys m : Int)) = true := by simp [hv]
          go_wp2_with (first | (go_at_call_of 192 (Value.slice A xs.length c); refine (limb_c A xs c m _ h).mono ?_; rintro e w1 ⟨rfl, rfl⟩) | (go_at_call_of 192 (Value.slice C ys.length d); refine (limb_c C ys d m _ k).mono ?_; rintro e w1 ⟨rfl, rfl⟩))
          go_round
          case rel => exact ⟨m, by omega, rfl, HS.out⟩
          case measure => simp [intOf]
        · have HE := Lib.hid (cmpI_gt (hz.swap.less k.1 hv))
          have b1 : ((lim xs m : Int) == (lim ys m : Int)) = false := by simp; omega
          have b2 : decide ((lim xs m : Int) < (lim ys m : Int)) = false := by simp; omega
          have b3 : decide (lim xs m < lim ys m) = false := by simp; omega
          go_wp2_with (first | (go_at_call_of 192 (Value.slice A xs.length c); refine (limb_c A xs c m _ h).mono ?_; rintro e w1 ⟨rfl, rfl⟩) | (go_at_call_of 192 (Value.slice C ys.length d); refine (limb_c C ys d m _ k).mono ?_; rintro e w1 ⟨rfl, rfl⟩))
          rw [Exit.noGoto_ret]
          go_ret
          exact ⟨by rw [HE.out]; rfl, rfl⟩
end Go.Proofs.YtgljfgkkolfnbaaGreatDoor.Bg

namespace Go.Proofs.YtgljfgkkolfnbaaGreatDoor.Bg
open Go.RowKit


theorem info53_ : (Tryz.prog.info? 56).map (fun i => (i.zero, i.size, i.bytes)) = some (some (.int .u32 0), 1, 4) := by kernel_rfl
/-- A new slice of at most L limbs, with the number V. -/
def NewL (L V : Nat) (w : World) (e : Ending) (w' : World) : Prop :=
  ∃ (g : Nat) (os : List Nat), e = .returned (.slice (some ⟨g, 0, none⟩) os.length os.length) ∧ w.heap.size ≤ g ∧ Own w' g os ∧ val os = V ∧ os.length ≤ L ∧ Below w.heap.size w w'
theorem zeros_cells (n : Nat) : madeCells #[.int .u32 0] n = Array.replicate n (.int .u32 0) := by
  apply Array.ext'
  rw [toList_madeCells_one]
  simp
theorem lim_i {xs : List Nat} (h : okL xs) (k : Nat) : (0 : Int) ≤ (lim xs k : Nat) ∧ ((lim xs k : Nat) : Int) < 4294967296 := by
  have := lim_lt h k
  have e := B_eq
  omega
theorem set_here {os : List Nat} {k n v : Nat} (h : os.length = k) (hk : k < n) : (os ++ List.replicate (n - k) 0).set k v = (os ++ [v]) ++ List.replicate (n - (k + 1)) 0 := by
  have e : n - k = (n - (k + 1)) + 1 := by omega
  rw [e, List.replicate_succ, List.set_append_right _ _ (by omega), h, Nat.sub_self, List.set_cons_zero]
  simp
def SumRel (xs ys : List Nat) (g n : Nat) (w : World) (s6 s18 : Value) (wr : World) : Prop :=
  ∃ (k : Nat) (os : List Nat) (c : Nat), k ≤ n ∧ s6 = .int .u64 c ∧ s18 = .int .i64 k ∧ SumAt xs ys k os c ∧ Own wr g (os ++ List.replicate (n - k) 0) ∧ Below w.heap.size w wr
theorem SumRel.step {xs ys : List Nat} {g n k c : Nat} {os : List Nat} {w wr : World} (hx : okL xs) (hy : okL ys) (hk : k < n) (hS : SumAt xs ys k os c) (hO : Own wr g (os ++ List.replicate (n - k) 0)) (hB : Below w.heap.size w wr) (hg : w.heap.size ≤ g) :
    SumRel xs ys g n w (.int .u64 (((lim xs k : Nat) + (lim ys k : Nat) + (c : Nat) : Int) / 4294967296)) (.int .i64 ((k : Int) + 1)) (wr.setCell ⟨g, k, none⟩ (.int .u32 (((lim xs k : Nat) + (lim ys k : Nat) + (c : Nat) : Int) % 4294967296))) := by
  have e1 : (((lim xs k : Nat) + (lim ys k : Nat) + (c : Nat) : Int) / 4294967296) = (((lim xs k + lim ys k + c) / B : Nat) : Int) := by rw [B_eq]; omega
  have e2 : (((lim xs k : Nat) + (lim ys k : Nat) + (c : Nat) : Int) % 4294967296) = (((lim xs k + lim ys k + c) % B : Nat) : Int) := by rw [B_eq]; omega
  rw [e1, e2]
  refine ⟨k + 1, _, _, by omega, rfl, by rw [show ((k + 1 : Nat) : Int) = (k : Int) + 1 by omega], hS.succ hx hy, ?_, hB.setCell hg _⟩
  rw [← set_here hS.len hk]
  exact hO.set (by rw [List.length_append, List.length_replicate, hS.len]; omega) (Nat.mod_lt _ B_pos)

end Go.Proofs.YtgljfgkkolfnbaaGreatDoor.Bg

namespace Go.Proofs.YtgljfgkkolfnbaaGreatDoor.Bg
open Go.RowKit


theorem Lim.grown' {w w' : World} {A : Option Addr} {xs : List Nat} (h : Lim w A xs) {row : Option Nat} (hg : w.grownBy w' row) (hr : 0 < xs.length → ∀ ad, A = some ad → some ad.block ≠ row) : Lim w' A xs := by
  by_cases h0 : 0 < xs.length
  · exact h.grown hg (hr h0)
  · have : xs = [] := List.eq_nil_of_length_eq_zero (by omega)
    subst this
    exact Lim.nil
/-- Of old memory block g alone may have turned: it holds os now. -/
def Subbed (g : Nat) (xs ys : List Nat) (w : World) (e : Ending) (w' : World) : Prop :=
  ∃ os, e = .returned (.tuple #[]) ∧ Own w' g os ∧ val os + val ys = val xs ∧ os.length = xs.length ∧ w.grownBy w' (some g)
def SubRel (xs ys : List Nat) (g : Nat) (w : World) (s4 s9 : Value) (wr : World) : Prop :=
  ∃ (k : Nat) (os : List Nat) (c : Nat), k ≤ xs.length ∧ s4 = .int .u64 c ∧ s9 = .int .i64 k ∧ SubAt xs ys k os c ∧ Own wr g os ∧ w.grownBy wr (some g)
theorem SubRel.step {xs ys : List Nat} {g k c n : Nat} {os : List Nat} {w wr : World} (hx : okL xs) (hy : okL ys) (hk : k < xs.length) (hS : SubAt xs ys k os c) (hO : Own wr g os) (hB : w.grownBy wr (some g)) :
    SubRel xs ys g w (.int .u64 (1 - (4294967296 + (lim xs k : Nat) - (lim ys k : Nat) - (c : Nat) : Int) / 4294967296)) (.int .i64 ((k : Int) + 1)) ((wr.drewN n).setCell ⟨g, k, none⟩ (.int .u32 ((4294967296 + (lim xs k : Nat) - (lim ys k : Nat) - (c : Nat) : Int) % 4294967296))) := by
  have hc := hS.carry
  have x1 := lim_lt hx k
  have y1 := lim_lt hy k
  have eB := B_eq
  have e0 : (4294967296 + (lim xs k : Nat) - (lim ys k : Nat) - (c : Nat) : Int) = ((B + lim xs k - lim ys k - c : Nat) : Int) := by omega
  have e1 : 1 - ((B + lim xs k - lim ys k - c : Nat) : Int) / 4294967296 = ((1 - (B + lim xs k - lim ys k - c) / B : Nat) : Int) := by
    have : (B + lim xs k - lim ys k - c) / B ≤ 1 := by rw [Nat.div_le_iff_le_mul_add_pred B_pos]; omega
    have h2 : ((B + lim xs k - lim ys k - c : Nat) : Int) / 4294967296 = (((B + lim xs k - lim ys k - c) / B : Nat) : Int) := by rw [B_eq]; omega
    rw [h2]; omega
  have e2 : ((B + lim xs k - lim ys k - c : Nat) : Int) % 4294967296 = (((B + lim xs k - lim ys k - c) % B : Nat) : Int) := by rw [B_eq]; omega
  rw [e0, e1, e2]
  exact ⟨k + 1, _, _, by omega, rfl, by rw [show ((k + 1 : Nat) : Int) = (k : Int) + 1 by omega], hS.succ hx hy hk, (hO.drewN n).set (by rw [hS.len]; exact hk) (Nat.mod_lt _ B_pos), grown_trans (grown_drewN hB n) (grown_set _ _ _ _)⟩

end Go.Proofs.YtgljfgkkolfnbaaGreatDoor.Bg

namespace Go.Proofs.YtgljfgkkolfnbaaGreatDoor.Bg
open Go.RowKit


def Grown (g : Nat) (xs : List Nat) (q m : Nat) (w : World) (e : Ending) (w' : World) : Prop :=
  ∃ (os : List Nat) (c : Nat), e = .returned (.int .u32 c) ∧ Own w' g os ∧ val os + B ^ xs.length * c = val xs * q + m ∧ os.length = xs.length ∧ c < B ∧ w.grownBy w' (some g)
def GrowRel (xs : List Nat) (q m g : Nat) (w : World) (s7 s15 : Value) (wr : World) : Prop :=
  ∃ (k : Nat) (os : List Nat) (c : Nat), k ≤ xs.length ∧ s7 = .int .u64 c ∧ s15 = .int .i64 k ∧ GrowAt xs q m k os c ∧ Own wr g os ∧ w.grownBy wr (some g)
theorem mul_i {x q : Nat} (hx : x < B) (hq : q < B) : (0 : Int) ≤ (x : Int) * (q : Int) ∧ (x : Int) * (q : Int) ≤ 18446744065119617025 := by
  have h : x * q ≤ (B - 1) * (B - 1) := Nat.mul_le_mul (by omega) (by omega)
  have e : (B - 1) * (B - 1) = 18446744065119617025 := rfl
  have c : ((x * q : Nat) : Int) = (x : Int) * (q : Int) := Int.natCast_mul x q
  omega
theorem GrowRel.step {xs : List Nat} {q m g k c : Nat} {os : List Nat} {w wr : World} (hx : okL xs) (hq : q < B) (hk : k < xs.length) (hS : GrowAt xs q m k os c) (hO : Own wr g os) (hB : w.grownBy wr (some g)) :
    GrowRel xs q m g w (.int .u64 (((lim xs k : Nat) * (q : Nat) + (c : Nat) : Int) / 4294967296)) (.int .i64 ((k : Int) + 1)) (wr.setCell ⟨g, k, none⟩ (.int .u32 (((lim xs k : Nat) * (q : Nat) + (c : Nat) : Int) % 4294967296))) := by
  have e0 : ((lim xs k : Nat) * (q : Nat) + (c : Nat) : Int) = ((lim xs k * q + c : Nat) : Int) := by rw [Int.natCast_add, Int.natCast_mul]
  have e1 : ((lim xs k * q + c : Nat) : Int) / 4294967296 = (((lim xs k * q + c) / B : Nat) : Int) := by rw [B_eq]; omega
  have e2 : ((lim xs k * q + c : Nat) : Int) % 4294967296 = (((lim xs k * q + c) % B : Nat) : Int) := by rw [B_eq]; omega
  rw [e0, e1, e2]
  exact ⟨k + 1, _, _, by omega, rfl, by rw [show ((k + 1 : Nat) : Int) = (k : Int) + 1 by omega], hS.succ hx hq hk, hO.set (by rw [hS.len]; exact hk) (Nat.mod_lt _ B_pos), grown_trans hB (grown_set _ _ _ _)⟩

set_option maxHeartbeats 1000000 in
theorem grow_c (g : Nat) (xs : List Nat) (c q m : Nat) (w : World) (h : Own w g xs) (hq : q < B) (hm : m < B) (hl : xs.length ≤ 1048576) :
    Calls Tryz.prog 193 #[.slice (some ⟨g, 0, none⟩) xs.length c, .int .u32 q, .int .u32 m] w (Grown g xs q m w) := by
  have q0 : (q : Int) < 4294967296 := by have := B_eq; omega
  have m0 : (m : Int) < 4294967296 := by have := B_eq; omega
  go_enter Tryz.func193, Tryz.ntmps193
  go_wp2
  go_loopw [7, 15] (GrowRel xs q m g w) (fun _ s15 _ => ((xs.length : Int) - intOf s15).toNat)
  case atStart => exact ⟨0, xs, m, by omega, rfl, rfl, GrowAt.zero h.1 q hm, h, grown_refl w _⟩
  case round =>
    obtain ⟨j, os, cy, hj, rfl, rfl, hS, hO, hB⟩ := hrel
    by_cases hlt2 : j < xs.length
    · obtain ⟨x0, x1⟩ := lim_i h.1 j
      obtain ⟨p0, p1⟩ := mul_i (lim_lt h.1 j) hq
      have hcy : (cy : Int) < 4294967296 := by have := hS.carry; have := B_eq; omega
      have hjo : j < os.length := by rw [hS.len]; exact hlt2
      have hlx : lim os j = lim xs j := lim_rest (hS.rest j (Nat.le_refl _))
      have hcell := hO.cell hjo
      rw [hlx] at hcell
      have hfro := hO.frozen j
      have HS := Lib.hid hS
      have HO := Lib.hid hO
      clear hS hO hlx hjo hm
      go_wp2
      go_roundw
      case rel => exact GrowRel.step h.1 hq hlt2 HS.out HO.out hB
      case measure => simp [intOf]; omega
    · obtain rfl : j = xs.length := by omega
      have hcy : (cy : Int) < 4294967296 := by have := hS.carry; have := B_eq; omega
      have HD := Lib.hid hS.done
      have HO := Lib.hid hO
      have HL := Lib.hid hS.len
      have HC := Lib.hid hS.carry
      clear hS hO hm
      go_wp2
      go_ret
      exact ⟨os, cy, rfl, HO.out, HD.out, HL.out, HC.out, hB⟩

theorem or_add (r x : Nat) (hx : x < B) : (r * 4294967296 ||| x) = B * r + x := by
  have h := Nat.two_pow_add_eq_or_of_lt (i := 32) (b := x) (by rw [← B_two]; exact hx) r
  rw [B_two, Nat.mul_comm r]
  exact h.symm
theorem shr_i {r x q : Nat} (hx : x < B) (hr : r < q) (hq : q < B) :
    bits BinOp.or IntKind.u64 ((r : Int) * 4294967296) (x : Int) = ((B * r + x : Nat) : Int) ∧ (0 : Int) ≤ ((B * r + x : Nat) : Int) / (q : Int) ∧ ((B * r + x : Nat) : Int) / (q : Int) < 4294967296 ∧ (0 : Int) ≤ ((B * r + x : Nat) : Int) % (q : Int) ∧ ((B * r + x : Nat) : Int) % (q : Int) < 4294967296 := by
  have eB := B_eq
  have q0 : 0 < q := by omega
  refine ⟨?_, ?_, ?_, ?_, ?_⟩
  · have e : (r : Int) * 4294967296 = ((r * 4294967296 : Nat) : Int) := by omega
    rw [e, u64_or_nat _ _ (by omega) (by omega), or_add r x hx]
  · rw [← Int.natCast_ediv]; exact Int.natCast_nonneg _
  · rw [← Int.natCast_ediv]
    have : (B * r + x) / q < B := by
      rw [Nat.div_lt_iff_lt_mul q0]
      have h2 : B * (r + 1) ≤ B * q := Nat.mul_le_mul_left _ hr
      rw [Nat.mul_succ] at h2
      omega
    omega
  · rw [← Int.natCast_emod]; exact Int.natCast_nonneg _
  · rw [← Int.natCast_emod]
    have := Nat.mod_lt (B * r + x) q0
    omega
def Shrunk (g : Nat) (xs : List Nat) (q : Nat) (w : World) (e : Ending) (w' : World) : Prop :=
  ∃ (os : List Nat), e = .returned (.int .u32 (val xs % q : Nat)) ∧ Own w' g os ∧ val os = val xs / q ∧ os.length = xs.length ∧ w.grownBy w' (some g)
def ShrinkRel (xs : List Nat) (q g : Nat) (w : World) (s5 s6 : Value) (wr : World) : Prop :=
  ∃ (k : Nat) (os : List Nat) (r : Nat), k ≤ xs.length ∧ s5 = .int .u64 r ∧ s6 = .int .i64 (k - 1 : Int) ∧ ShrinkAt xs q k os r ∧ Own wr g os ∧ w.grownBy wr (some g)
theorem ShrinkRel.step {xs : List Nat} {q g k r st : Nat} {os : List Nat} {w wr : World} (hx : okL xs) (hq : q < B) (hk : k < xs.length) (hst : B * r + lim xs k = st) (hS : ShrinkAt xs q (k + 1) os r) (hO : Own wr g os) (hB : w.grownBy wr (some g)) :
    ShrinkRel xs q g w (.int .u64 ((st : Int) % (q : Int))) (.int .i64 ((k : Int) - 1)) (wr.setCell ⟨g, k, none⟩ (.int .u32 ((st : Int) / (q : Int)))).drew := by
  subst hst
  have hS' := hS.succ hx (Nat.le_of_lt hq) hk
  rw [← Int.natCast_ediv, ← Int.natCast_emod]
  have hv : (B * r + lim xs k) / q < B := by
    have q0 : 0 < q := Nat.lt_of_le_of_lt (Nat.zero_le _) hS.rest
    rw [Nat.div_lt_iff_lt_mul q0]
    have h2 : B * (r + 1) ≤ B * q := Nat.mul_le_mul_left _ hS.rest
    have h3 := lim_lt hx k
    rw [Nat.mul_succ] at h2
    omega
  exact ⟨k, _, _, by omega, rfl, rfl, hS', (hO.set (by rw [hS.len]; exact hk) hv).drew, grown_drew (grown_trans hB (grown_set _ _ _ _))⟩

set_option maxHeartbeats 1000000 in
theorem shrink_c (g : Nat) (xs : List Nat) (c q : Nat) (w : World) (h : Own w g xs) (hq : q < B) (q0 : 0 < q) (hl : xs.length ≤ 1048576) :
    Calls Tryz.prog 218 #[.slice (some ⟨g, 0, none⟩) xs.length c, .int .u32 q] w (Shrunk g xs q w) := by
  have q1 : (q : Int) < 4294967296 := by have := B_eq; omega
  go_enter Tryz.func218, Tryz.ntmps218
  go_wp2
  go_loopw [5, 6] (ShrinkRel xs q g w) (fun _ s6 _ => (intOf s6 + 1).toNat)
  case atStart => exact ⟨xs.length, xs, 0, by omega, rfl, rfl, ShrinkAt.top h.1 q0, h, grown_refl w _⟩
  case round =>
    obtain ⟨j, os, r, hj, rfl, rfl, hS, hO, hB⟩ := hrel
    rcases j with _ | j
    · have hr : (r : Int) < 4294967296 := by have := hS.rest; have := B_eq; omega
      obtain ⟨hv, rfl⟩ := hS.quo
      have HV := Lib.hid hv
      have HO := Lib.hid hO
      have HL := Lib.hid hS.len
      clear hS hO hv
      go_wp2
      go_ret
      exact ⟨os, rfl, HO.out, HV.out, HL.out, hB⟩
    · rw [show ((j + 1 : Nat) : Int) - 1 = j by omega]
      obtain ⟨x0, x1⟩ := lim_i h.1 j
      have hr : (r : Int) < 4294967296 := by have := hS.rest; have := B_eq; omega
      have hjo : j < os.length := by rw [hS.len]; exact hj
      have hjx : j < xs.length := hj
      have hlx : lim os j = lim xs j := lim_rest (hS.low j (Nat.lt_succ_self _))
      have hcell := hO.cell hjo
      rw [hlx] at hcell
      have hfro := hO.frozen j
      have HS := Lib.hid hS
      have HO := Lib.hid hO
      obtain ⟨hor, d0, d1, t0, t1⟩ := shr_i (lim_lt h.1 j) hS.rest hq
      obtain ⟨st, hst⟩ : ∃ st, B * r + lim xs j = st := ⟨_, rfl⟩
      rw [hst] at hor d0 d1 t0 t1
      have HT := Lib.hid hst
      clear hS hO hlx hjo hst
      go_wp2
      clear hor
      have qz : ((q : Int) == 0) = false := by simp; omega
      go_region
      all_goals
        go_wp2
        go_roundw
        case rel => exact ShrinkRel.step h.1 hq hjx HT.out HS.out HO.out hB
        case measure => simp [intOf]
end Go.Proofs.YtgljfgkkolfnbaaGreatDoor.Bg

namespace Go.Proofs.YtgljfgkkolfnbaaGreatDoor.Bg
open Go.RowKit


def RowRel (xs ys : List Nat) (g : Nat) (w : World) (s20 : Value) (wr : World) : Prop :=
  ∃ (i : Nat) (os : List Nat), i ≤ xs.length ∧ s20 = .int .i64 i ∧ RowAt xs ys i os ∧ Own wr g os ∧ Below w.heap.size w wr
def LimbRel (xs ys : List Nat) (i g : Nat) (w : World) (s8 s29 : Value) (wr : World) : Prop :=
  ∃ (k : Nat) (os : List Nat) (c : Nat), k ≤ ys.length ∧ s8 = .int .u64 c ∧ s29 = .int .i64 k ∧ LimbAt xs ys i k os c ∧ Own wr g os ∧ Below w.heap.size w wr
theorem LimbRel.step {xs ys : List Nat} {g i k c : Nat} {os : List Nat} {w wr : World} (hx : okL xs) (hy : okL ys) (hi : i < xs.length) (hk : k < ys.length) (hS : LimbAt xs ys i k os c) (hO : Own wr g os) (hB : Below w.heap.size w wr) (hg : w.heap.size ≤ g) :
    LimbRel xs ys i g w (.int .u64 (((lim xs i : Nat) * (lim ys k : Nat) + (lim os (i + k) : Nat) + (c : Nat) : Int) / 4294967296)) (.int .i64 ((k : Int) + 1)) (wr.setCell ⟨g, i + k, none⟩ (.int .u32 (((lim xs i : Nat) * (lim ys k : Nat) + (lim os (i + k) : Nat) + (c : Nat) : Int) % 4294967296))) := by
  have e0 : ((lim xs i : Nat) * (lim ys k : Nat) + (lim os (i + k) : Nat) + (c : Nat) : Int) = ((lim xs i * lim ys k + lim os (i + k) + c : Nat) : Int) := by rw [Int.natCast_add, Int.natCast_add, Int.natCast_mul]
  have e1 : ((lim xs i * lim ys k + lim os (i + k) + c : Nat) : Int) / 4294967296 = (((lim xs i * lim ys k + lim os (i + k) + c) / B : Nat) : Int) := by rw [B_eq]; omega
  have e2 : ((lim xs i * lim ys k + lim os (i + k) + c : Nat) : Int) % 4294967296 = (((lim xs i * lim ys k + lim os (i + k) + c) % B : Nat) : Int) := by rw [B_eq]; omega
  rw [e0, e1, e2]
  exact ⟨k + 1, _, _, by omega, rfl, by rw [show ((k + 1 : Nat) : Int) = (k : Int) + 1 by omega], hS.succ hx hy hi hk, hO.set (by rw [hS.len]; omega) (Nat.mod_lt _ B_pos), hB.setCell hg _⟩

end Go.Proofs.YtgljfgkkolfnbaaGreatDoor.Bg

namespace Go.Proofs.YtgljfgkkolfnbaaGreatDoor.Bg
open Go.RowKit


theorem grow_i (g : Nat) (xs : List Nat) (n c q m : Nat) (qi mi : Int) (w : World) (h : Own w g xs) (hn : n = xs.length) (hqi : qi = q) (hmi : mi = m) (hq : q < B) (hm : m < B) (hl : xs.length ≤ 1048576) :
    Calls Tryz.prog 193 #[.slice (some ⟨g, 0, none⟩) n c, .int .u32 qi, .int .u32 mi] w (Grown g xs q m w) := by
  subst hn hqi hmi
  exact grow_c g xs c q m w h hq hm hl
theorem cmpI_ge {a b : Nat} (h : b ≤ a) : ∃ z : Int, cmpI a b = z ∧ 0 ≤ z := by
  rcases Nat.lt_or_ge b a with h1 | h1
  · exact ⟨1, cmpI_gt h1, by decide⟩
  · exact ⟨0, cmpI_eq (by omega), by decide⟩
theorem orbit_i {l b : Nat} (hl : l < B) (hb : b < 32) : (0 : Int) ≤ 2 ^ b ∧ (2 : Int) ^ b < 4294967296 ∧ bits BinOp.or IntKind.u32 (l : Int) (2 ^ b) = ((l ||| 2 ^ b : Nat) : Int) := by
  have e : (2 : Int) ^ b = ((2 ^ b : Nat) : Int) := by rw [Int.natCast_pow]; rfl
  have h2 : 2 ^ b < 4294967296 := Nat.pow_lt_pow_right (by decide : 1 < 2) hb
  rw [e, u32_or_nat l (2 ^ b) hl h2]
  exact ⟨Int.natCast_nonneg _, Int.ofNat_lt.2 h2, rfl⟩
theorem Own.zeros' (w : World) (g n : Nat) (t : TypeId) (cs : Array Value) (hc : cs = Array.replicate n (.int .u32 0)) (hg : g = w.heap.size) : Own (w.alloc (.cells cs t)) g (List.replicate n 0) := by
  subst hg
  exact Own.zeros w n t cs hc
theorem compare_i (A C : Option Addr) (xs ys : List Nat) (n c d : Nat) (w : World) (h : Lim w A xs) (k : Lim w C ys) (hn : n = xs.length) (hl : xs.length ≤ 1152921504606846976) (kl : ys.length ≤ 1152921504606846976) :
    Calls Tryz.prog 154 #[.slice A n c, .slice C ys.length d] w fun e w' => e = .returned (.int .i64 (cmpI (val xs) (val ys))) ∧ w = w' := by
  subst hn
  exact compare_c A C xs ys c d w h k hl kl
theorem bit_i {l b : Nat} (h : l < B) : bits BinOp.and IntKind.u32 ((l : Int) / 2 ^ b) 1 = ((l / 2 ^ b % 2 : Nat) : Int) := by
  have e : (l : Int) / 2 ^ b = ((l / 2 ^ b : Nat) : Int) := by rw [Int.natCast_ediv, Int.natCast_pow]; rfl
  have hlt : l / 2 ^ b < 4294967296 := Nat.lt_of_le_of_lt (Nat.div_le_self _ _) h
  have h2 := u32_and_nat (l / 2 ^ b) 1 hlt (by omega)
  rw [e, show (1 : Int) = ((1 : Nat) : Int) from rfl, h2, Nat.and_one_is_mod]
theorem grow_zero {n R b Y c V : Nat} (h : V + B ^ (n + 1) * c = R * 2 + b) (hb : b < 2) (hR : R < Y) (hY : Y ≤ B ^ n) : V = 2 * R + b := by
  have hc : c = 0 := by
    rcases Nat.eq_zero_or_pos c with hz | hz
    · exact hz
    · have h1 := Nat.le_mul_of_pos_right (B ^ (n + 1)) hz
      have h2 : B ^ n * 2 ≤ B ^ (n + 1) := by rw [Nat.pow_succ]; exact Nat.mul_le_mul_left _ (by decide)
      omega
  subst hc
  omega
def DivRel (xs ys : List Nat) (g : Nat) (w : World) (s6 : Value) (wr : World) : Prop :=
  ∃ (j Q R : Nat) (os rs : List Nat), j ≤ xs.length * 32 ∧ s6 = .int .i64 (j - 1 : Int) ∧ DivAt (val xs) (val ys) j Q R ∧ Own wr g os ∧ os.length = xs.length ∧ val os = 2 ^ j * Q ∧ Own wr (g + 1) rs ∧ rs.length = ys.length + 1 ∧ val rs = R ∧ Below w.heap.size w wr
/-- Two new slices: the quotient, the rest. -/
def NewQR (L M Q R : Nat) (w : World) (e : Ending) (w' : World) : Prop :=
  ∃ (os rs : List Nat), e = .returned (.tuple #[.slice (some ⟨w.heap.size, 0, none⟩) os.length os.length, .slice (some ⟨w.heap.size + 1, 0, none⟩) rs.length rs.length]) ∧ Own w' w.heap.size os ∧ Own w' (w.heap.size + 1) rs ∧ val os = Q ∧ val rs = R ∧ os.length ≤ L ∧ rs.length ≤ M ∧ Below w.heap.size w w'

end Go.Proofs.YtgljfgkkolfnbaaGreatDoor.Bg

namespace Go.Proofs.YtgljfgkkolfnbaaGreatDoor.Bg
open Go.RowKit


theorem two_i {z : Int} {n : Nat} (h : z = n) : Value.int .u32 z = .int .u32 (n : Int) := by rw [h]
theorem Own.two (w : World) (a b : Nat) (t : TypeId) (va vb : Int) (ha : va = a) (hb : vb = b) (h1 : a < B) (h2 : b < B) : Own (w.alloc (.cells #[.int .u32 va, .int .u32 vb] t)) w.heap.size [a, b] := by
  subst ha hb
  refine ⟨okL.cons h1 (okL.cons h2 okL_nil), _, t, heap_alloc_new w _, fun j hj => ?_⟩
  match j, hj with
  | 0, _ => rfl
  | 1, _ => rfl
theorem split_c (v : Nat) (hv : v < B * B) (w : World) : Calls Tryz.prog 99 #[.int .u64 v] w (NewL 2 v w) := by
  have hlt : (v : Int) ≤ 18446744073709551615 := by have : B * B = 18446744073709551616 := rfl; omega
  go_enter Tryz.func99, Tryz.ntmps99
  go_wp2
  go_ret
  have e1 : (v : Int) % 4294967296 = ((v % B : Nat) : Int) := by rw [B_eq]; omega
  have e2 : (v : Int) / 4294967296 = ((v / B : Nat) : Int) := by rw [B_eq]; omega
  refine ⟨w.heap.size, [v % B, v / B], rfl, Nat.le_refl _, Own.two w _ _ _ _ _ e1 e2 (Nat.mod_lt _ B_pos) (by rw [Nat.div_lt_iff_lt_mul B_pos]; exact hv), ?_, Nat.le_refl _, (Below.refl _ _).alloc (Nat.le_refl _) _⟩
  simp only [val, Nat.mul_zero, Nat.add_zero]
  exact Nat.mod_add_div v B

/-- A slice of at most L limbs, with the number V; what was there is as it was. -/
def NewS (L V : Nat) (w : World) (e : Ending) (w' : World) : Prop :=
  ∃ (A : Option Addr) (c : Nat) (os : List Nat), e = .returned (.slice A os.length c) ∧ os.length ≤ c ∧ c ≤ 9223372036854775807 ∧ Lim w' A os ∧ val os = V ∧ os.length ≤ L ∧ Below w.heap.size w w'
def u32s (xs : List Nat) : List Value := xs.map fun (x : Nat) => .int .u32 (x : Int)
theorem lim_of_own {w : World} {b : Nat} {v : Value} {os : List Nat} (ho : okL os) (h : w.ownsRow b 56 1 v os.length (u32s os)) : ∃ A c, v = .slice A os.length c ∧ os.length ≤ c ∧ c ≤ 9223372036854775807 ∧ Lim w A os := by
  rcases h.2 with ⟨rfl, h0⟩ | ⟨g, cap, cur, rfl, hb, hg, hl, hm, hs, ht⟩
  · have : os = [] := List.eq_nil_of_length_eq_zero h0
    subst this
    exact ⟨none, 0, rfl, Nat.le_refl _, by omega, Lim.nil⟩
  · refine ⟨some ⟨g, 0, none⟩, cap, rfl, hl, by unfold maxLen at hm; exact hm, ho, fun h0 => ⟨_, rfl, (Array.getElem?_eq_some_iff.1 hg).1, fun j hj => ?_⟩⟩
    rw [zero_add_addr, cell_of_row w g j cur 56 (0, 0) hg]
    have e : cur[j]? = cur.toList[j]? := by simp
    have e2 : (cur.toList.take (os.length * 1))[j]? = cur.toList[j]? := by rw [List.getElem?_take, if_pos (by omega)]
    rw [e, ← e2, ht]
    unfold u32s
    rw [List.getElem?_map, List.getElem?_eq_getElem hj, lim_in hj]
    rfl
theorem news1 (w : World) (u : Value) (t : TypeId) : ∀ j v, [u][j]? = some v → (w.alloc (.cells #[u] t)).cell? ((⟨w.heap.size, 0, none⟩ : Addr).add j) = some v := fun j v h => by
  rw [zero_add_addr, World.cell?_alloc_at _ _ _ _ rfl]
  simpa using h
theorem one_u32 (z : Int) : ∀ u ∈ [Value.int .u32 z], u.oneCell' = true := fun u h => by
  rw [List.mem_singleton] at h
  subst h
  rfl
def CutRel (n : Nat) (xs : List Nat) (w : World) (s5 s12 : Value) (wr : World) : Prop :=
  ∃ (k : Nat) (os : List Nat), k ≤ xs.length ∧ s12 = .int .i64 k ∧ okL os ∧ os.length = k ∧ val os = val xs % 2 ^ (min n (32 * k)) ∧ wr.ownsRow w.heap.size 56 1 s5 os.length (u32s os) ∧ Below w.heap.size w wr
theorem cut_done {xs : List Nat} (h : okL xs) (n k : Nat) (hk : n ≤ 32 * k ∨ k = xs.length) : val xs % 2 ^ (min n (32 * k)) = val xs % 2 ^ n := by
  by_cases hn : n ≤ 32 * k
  · rw [Nat.min_eq_left hn]
  · have hkx : k = xs.length := by omega
    have h1 : val xs < 2 ^ (32 * k) := by rw [← pow_bits, hkx]; exact val_lt h
    have h2 : (2 : Nat) ^ (32 * k) ≤ 2 ^ n := Nat.pow_le_pow_right (by decide) (by omega)
    rw [Nat.min_eq_right (by omega), Nat.mod_eq_of_lt h1, Nat.mod_eq_of_lt (by omega)]
theorem cut_part {xs os : List Nat} (h : okL xs) {n k b : Nat} (hb : b < 32) (hn : n = 32 * k + b) (ho : os.length = k) (hv : val os = val xs % 2 ^ (min n (32 * k))) :
    val (os ++ [lim xs k % 2 ^ b]) = val xs % 2 ^ (min n (32 * (k + 1))) := by
  rw [val_snoc, ho, hv, Nat.min_eq_right (by omega), Nat.min_eq_left (by omega), hn, ← cut_mod h k b hb, ← pow_bits, ← low_mod h]
theorem cut_full {xs os : List Nat} (h : okL xs) {n k : Nat} (hn : 32 * (k + 1) ≤ n) (ho : os.length = k) (hv : val os = val xs % 2 ^ (min n (32 * k))) :
    val (os ++ [lim xs k]) = val xs % 2 ^ (min n (32 * (k + 1))) := by
  rw [val_snoc, ho, hv, Nat.min_eq_right (by omega), Nat.min_eq_right (by omega), ← pow_bits, ← pow_bits, ← low_mod h, ← low_mod h, low_succ]
theorem CutRel.step {n k x : Nat} {xs os : List Nat} {w wr w1 : World} {v v1 : Value} {o : Obj} (hk : k < xs.length) (hl : os.length = k) (ho : okL os) (hx : x < B) (hv : val (os ++ [x]) = val xs % 2 ^ (min n (32 * (k + 1))))
    (h0 : wr.ownsRow w.heap.size 56 1 v os.length (u32s os)) (h1 : w1.ownsRow w.heap.size 56 1 v1 (os.length + 1) (u32s os ++ [.int .u32 (x : Int)])) (hg : (wr.alloc o).grownBy w1 v.ownBlock) (hB : Below w.heap.size w wr) :
    CutRel n xs w v1 (.int .i64 ((k : Int) + 1)) w1 := by
  refine ⟨k + 1, os ++ [x], hk, by rw [show ((k + 1 : Nat) : Int) = (k : Int) + 1 by omega], ho.append (okL.cons hx okL_nil), by simp [hl], hv, ?_, (hB.alloc hB.size o).grown hg (by rw [World.size_alloc]; have := hB.size; omega) (fun j hj => (h0.lt j hj).1)⟩
  have e : (os ++ [x]).length = os.length + 1 := by simp
  have e2 : u32s (os ++ [x]) = u32s os ++ [.int .u32 (x : Int)] := by simp [u32s]
  rw [e, e2]
  exact h1
theorem mask_i {x b : Nat} (hx : x < B) (hb : b < 32) : ∃ p : Int, (2 : Int) ^ b % 4294967296 = p ∧ bits BinOp.and IntKind.u32 (x : Int) (p - 1) = ((x % 2 ^ b : Nat) : Int) ∧ 1 ≤ p ∧ p ≤ 2147483648 := by
  have e : (2 : Int) ^ b = ((2 ^ b : Nat) : Int) := by rw [Int.natCast_pow]; rfl
  have h2 : 2 ^ b ≤ 2147483648 := Nat.pow_le_pow_right (by decide : 0 < 2) (by omega : b ≤ 31)
  have h1 : 1 ≤ 2 ^ b := Nat.one_le_two_pow
  have e2 : ((2 ^ b : Nat) : Int) - 1 = ((2 ^ b - 1 : Nat) : Int) := by omega
  refine ⟨((2 ^ b : Nat) : Int), ?_, ?_, Int.ofNat_le.2 h1, Int.ofNat_le.2 h2⟩
  · rw [e]
    exact Int.emod_eq_of_lt (Int.natCast_nonneg _) (Int.lt_of_le_of_lt (Int.ofNat_le.2 h2) (by decide))
  · rw [e2, u32_and_nat x (2 ^ b - 1) hx (by omega), Nat.and_two_pow_sub_one_eq_mod]

end Go.Proofs.YtgljfgkkolfnbaaGreatDoor.Bg

namespace Go.Proofs.YtgljfgkkolfnbaaGreatDoor.Bg
open Go.RowKit


/-- The number n is returned, its limbs lie in memory; what was there is as it was. -/
def RetBig (n : Int) (w : World) (e : Ending) (w' : World) : Prop :=
  ∃ (A : Option Addr) (c : Nat), e = .returned (.agg #[.bool (decide (n < 0)), .slice A (dig n.natAbs).length c]) ∧ (dig n.natAbs).length ≤ c ∧ c ≤ 9223372036854775807 ∧ Lim w' A (dig n.natAbs) ∧ Plus w w'
theorem Lim.plus {w : World} {A : Option Addr} {xs : List Nat} (h : Lim w A xs) {w' : World} (hp : Plus w w') : Lim w' A xs := h.below hp.below
theorem Lim.grow {w : World} {A : Option Addr} {xs : List Nat} (h : Lim w A xs) (x : More) : Lim (_root_.Go.Proofs.YtgljfgkkolfnbaaGreatDoor.plus w x) A xs := h.plus ⟨x, rfl⟩
def _root_.Go.Proofs.YtgljfgkkolfnbaaGreatDoor.More.add (x y : More) : More := ⟨x.blocks ++ y.blocks, y.draws⟩
theorem plus_add (w : World) (x y : More) : plus (plus w x) y = plus w (x.add y) := plus_plus w x y
/-- The result's own cells are no limbs: they may turn. -/
theorem Lim.res {w : World} {x : More} {A : Option Addr} {xs : List Nat} {b b' : Bool} {a a' : Option Addr} {n n' c c' : Nat} {t : TypeId} (h : Lim (_root_.Go.Proofs.YtgljfgkkolfnbaaGreatDoor.plus (w.alloc (.cells #[.bool b, .slice a n c] t)) x) A xs) :
    Lim (_root_.Go.Proofs.YtgljfgkkolfnbaaGreatDoor.plus (w.alloc (.cells #[.bool b', .slice a' n' c'] t)) x) A xs := by
  refine ⟨h.1, fun h0 => ?_⟩
  obtain ⟨ad, rfl, hb, hc⟩ := h.2 h0
  have hsz : ∀ o : Obj, (_root_.Go.Proofs.YtgljfgkkolfnbaaGreatDoor.plus (w.alloc o) x).heap.size = w.heap.size + 1 + x.blocks.length := fun o => by rw [size_plus, World.size_alloc]
  have hold : ∀ (o : Obj) (k : Nat), k ≠ w.heap.size → (_root_.Go.Proofs.YtgljfgkkolfnbaaGreatDoor.plus (w.alloc o) x).heap[k]? = if k < w.heap.size then w.heap[k]? else x.blocks[k - (w.heap.size + 1)]? := fun o k hk => by
    by_cases hlt : k < w.heap.size
    · rw [if_pos hlt, heap_plus_lt _ _ (by rw [World.size_alloc]; omega), Below.heap_alloc _ _ _ hlt]
    · rw [if_neg hlt]
      show ((w.alloc o).heap ++ x.blocks.toArray)[k]? = _
      rw [Array.getElem?_append_right (by rw [World.size_alloc]; omega), World.size_alloc]
      simp
  have hne : ad.block ≠ w.heap.size := fun e => by
    have h1 := hc 0 h0
    have h2 : (ad.add 0) = ad := by unfold Addr.add; rw [if_pos rfl]
    rw [h2] at h1
    have h3 : (_root_.Go.Proofs.YtgljfgkkolfnbaaGreatDoor.plus (w.alloc (.cells #[.bool b, .slice a n c] t)) x).heap[ad.block]? = some (.cells #[.bool b, .slice a n c] t) := by
      rw [e, heap_plus_lt _ _ (by rw [World.size_alloc]; omega)]
      exact heap_alloc_new w _
    unfold World.cell? at h1
    rw [h3] at h1
    simp only at h1
    split at h1
    · cases h1
    · match hoff : ad.off with
      | 0 => rw [hoff] at h1; simp at h1
      | 1 => rw [hoff] at h1; simp at h1
      | k + 2 => rw [hoff] at h1; simp at h1
  refine ⟨ad, rfl, by rw [hsz] at hb ⊢; exact hb, fun j hj => ?_⟩
  rw [← hc j hj]
  apply World.cell?_of_block
  rw [block_of_add, hold _ _ hne, hold _ _ hne]
theorem Lim.res2 {w : World} {x y : More} {A : Option Addr} {xs : List Nat} {b b' : Bool} {a a' : Option Addr} {n n' c c' : Nat} {t : TypeId} (h : Lim (_root_.Go.Proofs.YtgljfgkkolfnbaaGreatDoor.plus (_root_.Go.Proofs.YtgljfgkkolfnbaaGreatDoor.plus (w.alloc (.cells #[.bool b, .slice a n c] t)) x) y) A xs) :
    Lim (_root_.Go.Proofs.YtgljfgkkolfnbaaGreatDoor.plus (_root_.Go.Proofs.YtgljfgkkolfnbaaGreatDoor.plus (w.alloc (.cells #[.bool b', .slice a' n' c'] t)) x) y) A xs := by
  rw [plus_add] at h ⊢
  exact h.res
theorem Lim.res3 {w : World} {x y z : More} {A : Option Addr} {xs : List Nat} {b b' : Bool} {a a' : Option Addr} {n n' c c' : Nat} {t : TypeId} (h : Lim (_root_.Go.Proofs.YtgljfgkkolfnbaaGreatDoor.plus (_root_.Go.Proofs.YtgljfgkkolfnbaaGreatDoor.plus (_root_.Go.Proofs.YtgljfgkkolfnbaaGreatDoor.plus (w.alloc (.cells #[.bool b, .slice a n c] t)) x) y) z) A xs) :
    Lim (_root_.Go.Proofs.YtgljfgkkolfnbaaGreatDoor.plus (_root_.Go.Proofs.YtgljfgkkolfnbaaGreatDoor.plus (_root_.Go.Proofs.YtgljfgkkolfnbaaGreatDoor.plus (w.alloc (.cells #[.bool b', .slice a' n' c'] t)) x) y) z) A xs := by
  rw [plus_add, plus_add] at h ⊢
  exact h.res
theorem sgn_neg {neg : Bool} {m : Nat} (h : m ≠ 0) : decide (sgn neg m < 0) = neg := by
  cases neg <;> simp [sgn]
  omega
theorem dig_ne {m : Nat} (h : m ≠ 0) : (dig m).length ≠ 0 := fun e => h (dig_inj (by rw [List.eq_nil_of_length_eq_zero e, dig_zero]))

set_option maxHeartbeats 1000000 in
theorem made_c (neg : Bool) (A : Option Addr) (xs : List Nat) (n c : Nat) (w : World) (h : Lim w A xs) (hn : n = xs.length) (hl : xs.length ≤ c) (hc : c ≤ 9223372036854775807) :
    Calls Tryz.prog 98 #[.bool neg, .slice A n c] w (RetBig (sgn neg (val xs)) w) := by
  subst hn
  obtain ⟨m, hm⟩ : ∃ m, val xs = m := ⟨_, rfl⟩
  have hL := h.dig
  have hd := (dig_head h.1).2
  rw [hm] at hL hd
  by_cases h0 : m = 0
  · have e1 : (dig m).length = 0 := by rw [h0, dig_zero]; rfl
    have HM := Lib.hid hm; clear hm
    go_enter Tryz.func98, Tryz.ntmps98
    go_wp2_with (go_at_call 158; refine (trim_c _ _ _ _ (h.alloc _) hl hc).mono ?_; rintro e w1 ⟨rfl, rfl⟩; rw [HM.out, e1])
    go_returns
    subst h0
    rw [HM.out]
    refine ⟨none, 0, ?_, by rw [sgn_abs]; exact Nat.le_of_eq e1, by omega, by rw [sgn_abs, dig_zero]; exact Lim.nil, (Plus.refl _).alloc _⟩
    rw [sgn_abs, e1]
    cases neg <;> rfl
  · obtain ⟨L, hlen⟩ : ∃ L, (dig m).length = L := ⟨_, rfl⟩
    have hL0 : ((L : Int) == 0) = false := by rw [← hlen]; exact cast_ne (dig_ne h0)
    have HM := Lib.hid hm; clear hm
    have HL := Lib.hid hlen; clear hlen
    go_enter Tryz.func98, Tryz.ntmps98
    go_wp2_with (go_at_call 158; refine (trim_c _ _ _ _ (h.alloc _) hl hc).mono ?_; rintro e w1 ⟨rfl, rfl⟩; rw [HM.out, HL.out])
    go_returns
    rw [HM.out]
    refine ⟨A, c, ?_, by rw [sgn_abs]; exact Nat.le_trans hd hl, hc, by rw [sgn_abs]; exact hL.alloc _, (Plus.refl _).alloc _⟩
    rw [sgn_abs, sgn_neg h0, HL.out]

/-- A number or, if it has too many limbs, zero and false. -/
def RetBigOk (n : Int) (w : World) (e : Ending) (w' : World) : Prop :=
  ∃ (A : Option Addr) (c : Nat) (m : Int) (ok : Bool), e = .returned (.tuple #[.agg #[.bool (decide (m < 0)), .slice A (dig m.natAbs).length c], .bool ok]) ∧ ok = decide (n.natAbs < B ^ 8) ∧ m = (if n.natAbs < B ^ 8 then n else 0) ∧ (dig m.natAbs).length ≤ c ∧ c ≤ 9223372036854775807 ∧ Lim w' A (dig m.natAbs) ∧ Plus w w'
theorem dig_long {m : Nat} : (dig m).length ≤ 8 ↔ m < B ^ 8 := ⟨lt_of_dig_len, dig_len_le⟩

end Go.Proofs.YtgljfgkkolfnbaaGreatDoor.Bg

namespace Go.Proofs.YtgljfgkkolfnbaaGreatDoor.Bg
open Go.RowKit


set_option maxHeartbeats 1000000 in
theorem may_c (neg : Bool) (A : Option Addr) (xs : List Nat) (n c : Nat) (w : World) (h : Lim w A xs) (hn : n = xs.length) (hl : xs.length ≤ 1152921504606846976) :
    Calls Tryz.prog 61 #[.agg #[.bool neg, .slice A n c]] w fun e w' => e = .returned (.bool (mayL neg xs)) ∧ Plus w w' := by
  subst hn
  by_cases h0 : xs.length = 0
  · have HM : Hid (mayL neg xs = !neg) := Lib.hid (by unfold mayL; rw [if_pos h0])
    rw [h0]
    go_enter Tryz.func61, Tryz.ntmps61
    go_wp2
    go_ret
    exact ⟨by rw [HM.out]; rfl, (Plus.refl _).alloc _⟩
  · have h0b : ((xs.length : Int) == 0) = false := by simpa using h0
    by_cases h8 : xs.length ≤ 8
    · have h8b : decide ((xs.length : Int) ≤ 8) = true := by simp; omega
      obtain ⟨ad, rfl, hcell⟩ := h.at_ (k := xs.length - 1) (by omega)
      have e1 : ((xs.length : Int) - 1).toNat = xs.length - 1 := by omega
      have e2 : (xs.length : Int) - 1 < (xs.length : Int) := by omega
      have hcw : ∀ o : Obj, (w.alloc o).cell? (ad.add (xs.length - 1)) = some (.int .u32 (lim xs (xs.length - 1) : Nat)) := fun o => by
        rw [World.cell?_alloc_lt _ _ _ (World.block_lt_of_cell? _ _ hcell)]
        exact hcell
      by_cases hv : lim xs (xs.length - 1) = 0
      · have HM : Hid (mayL neg xs = false) := Lib.hid (by unfold mayL; rw [if_neg h0, hv]; simp)
        have hb : (((lim xs (xs.length - 1) : Nat) : Int) != 0) = false := by rw [hv]; rfl
        go_enter Tryz.func61, Tryz.ntmps61
        go_wp2
        go_ret
        exact ⟨by rw [HM.out]; rfl, (Plus.refl _).alloc _⟩
      · have HM : Hid (mayL neg xs = true) := Lib.hid (by unfold mayL; rw [if_neg h0]; simp [h8, hv])
        have hb : (((lim xs (xs.length - 1) : Nat) : Int) != 0) = true := by simpa using hv
        go_enter Tryz.func61, Tryz.ntmps61
        go_wp2
        go_ret
        exact ⟨by rw [HM.out]; rfl, (Plus.refl _).alloc _⟩
    · have HM : Hid (mayL neg xs = false) := Lib.hid (by unfold mayL; rw [if_neg h0]; simp [h8])
      have h8b : decide ((xs.length : Int) ≤ 8) = false := by simp; omega
      go_enter Tryz.func61, Tryz.ntmps61
      go_wp2
      go_ret
      exact ⟨by rw [HM.out]; rfl, (Plus.refl _).alloc _⟩

set_option maxHeartbeats 1000000 in
theorem valid_c (neg : Bool) (A : Option Addr) (xs : List Nat) (n c : Nat) (w : World) (h : Lim w A xs) (hn : n = xs.length) (hl : xs.length ≤ 1152921504606846976) (hlc : xs.length ≤ c) (hc : c ≤ 9223372036854775807) :
    Calls Tryz.prog 135 #[.agg #[.bool neg, .slice A n c]] w (RetBig (bigI neg xs) w) := by
  subst hn
  by_cases hm : mayL neg xs = true
  · obtain ⟨e1, e2, _⟩ := may_yes h.1 hm
    have E1 := Lib.hid e1; clear e1
    have E2 := Lib.hid e2; clear e2
    have HM := Lib.hid hm; clear hm
    go_enter Tryz.func135, Tryz.ntmps135
    go_wp2_with (go_at_call 61; refine (may_c _ _ _ _ _ _ ((h.alloc _).alloc _) rfl hl).mono ?_; rintro e w1 ⟨rfl, ⟨x, rfl⟩⟩; rw [HM.out])
    go_returns
    refine ⟨A, c, ?_, by rw [← E1.out]; exact hlc, hc, by rw [← E1.out]; exact ((h.alloc _).alloc _).grow _, ?_⟩
    · rw [← E1.out, ← E2.out]
    · repeat' (first | exact Plus.refl _ | refine Plus.alloc ?_ _ | refine Plus.plus ?_ _ | refine Plus.drew ?_ | refine Plus.drewN ?_ _)
  · have hm' : mayL neg xs = false := by simpa using hm
    have h0 := may_no hm'
    have HM := Lib.hid hm'; clear hm hm'
    rw [h0]
    go_enter Tryz.func135, Tryz.ntmps135
    go_wp2_with (go_at_call 61; refine (may_c _ _ _ _ _ _ ((h.alloc _).alloc _) rfl hl).mono ?_; rintro e w1 ⟨rfl, ⟨x, rfl⟩⟩; rw [HM.out])
    go_returns
    refine ⟨none, 0, by rw [show (0 : Int).natAbs = 0 from rfl, dig_zero]; rfl, by rw [show (0 : Int).natAbs = 0 from rfl, dig_zero]; exact Nat.le_refl _, by omega, by rw [show (0 : Int).natAbs = 0 from rfl, dig_zero]; exact Lim.nil, ?_⟩
    repeat' (first | exact Plus.refl _ | refine Plus.alloc ?_ _ | refine Plus.plus ?_ _ | refine Plus.drew ?_ | refine Plus.drewN ?_ _)

end Go.Proofs.YtgljfgkkolfnbaaGreatDoor.Bg

namespace Go.Proofs.YtgljfgkkolfnbaaGreatDoor.Bg
open Go.RowKit

set_option maxHeartbeats 1000000 in
theorem sum_c (A C : Option Addr) (xs ys : List Nat) (c d : Nat) (w : World) (h : Lim w A xs) (k : Lim w C ys) (hl : xs.length ≤ 1048576) (kl : ys.length ≤ 1048576) :
    Calls Tryz.prog 153 #[.slice A xs.length c, .slice C ys.length d] w (NewL (max xs.length ys.length + 1) (val xs + val ys) w) := by
  by_cases hlt : xs.length < ys.length
  · have hM : max xs.length ys.length = ys.length := by omega
    have h1 : xs.length < ys.length + 1 := by omega
    have h2 : ys.length < ys.length + 1 := by omega
    have hmk := run_make_row' (P := Tryz.prog) 24 56 (.int .u32 0) 4 Tryz.underlying24 info53_ rfl .i64 .i64 (ys.length + 1) (by omega) (by omega)
    rw [zeros_cells, show ((ys.length + 1 : Nat) : Int) = (ys.length : Int) + 1 by omega] at hmk
    rw [hM]
    clear hM
    go_enter Tryz.func153, Tryz.ntmps153
    go_wp2
    clear hmk
    go_loopw [6, 18] (SumRel xs ys w.heap.size (ys.length + 1) w) (fun _ s18 _ => ((ys.length : Int) + 1 - intOf s18).toNat)
    case atStart => exact ⟨0, [], 0, by omega, rfl, rfl, SumAt.zero xs ys, Own.zeros w _ 56 _ rfl, (Below.refl _ _).alloc (Nat.le_refl _) _⟩
    case round =>
      obtain ⟨j, os, cy, hj, rfl, rfl, hS, hO, hB⟩ := hrel
      by_cases hlt2 : j < ys.length + 1
      · have hA : Lim wr A xs := h.below hB
        have hC : Lim wr C ys := k.below hB
        obtain ⟨x0, x1⟩ := lim_i h.1 j
        obtain ⟨y0, y1⟩ := lim_i k.1 j
        have hcy : (cy : Int) ≤ 1 := by have := hS.carry; omega
        have hlen : j < (os ++ List.replicate (ys.length + 1 - j) 0).length := by rw [List.length_append, List.length_replicate, hS.len]; omega
        have hcell := hO.cell hlen
        have hfro := hO.frozen j
        have HS := Lib.hid hS
        have HO := Lib.hid hO
        have HL := Lib.hid hlen
        clear hS hO hlen
        have hjl : (j : Int) < (ys.length : Int) + 1 := by omega
        go_wp2_with (first | (go_at_call_of 192 (Value.slice A xs.length c); refine (limb_c A xs c j _ (by exact hA)).mono ?_; rintro e w1 ⟨rfl, rfl⟩) | (go_at_call_of 192 (Value.slice C ys.length d); refine (limb_c C ys d j _ (by exact hC)).mono ?_; rintro e w1 ⟨rfl, rfl⟩))
        go_roundw
        case rel => exact SumRel.step h.1 k.1 hlt2 HS.out HO.out hB (Nat.le_refl _)
        case measure => simp [intOf]; omega
      · obtain rfl : j = ys.length + 1 := by omega
        obtain ⟨hv, _⟩ := hS.done h.1 k.1 h1 h2
        have HL := Lib.hid hS.len
        have HV := Lib.hid hv
        have HO : Hid (Own wr w.heap.size os) := Lib.hid (by simpa using hO)
        clear hS hO hv
        go_wp2
        go_ret
        exact ⟨w.heap.size, os, by rw [HL.out]; rfl, Nat.le_refl _, HO.out, HV.out, by rw [HL.out]; exact Nat.le_refl _, hB⟩
  · have hM : max xs.length ys.length = xs.length := by omega
    have h1 : xs.length < xs.length + 1 := by omega
    have h2 : ys.length < xs.length + 1 := by omega
    have hmk := run_make_row' (P := Tryz.prog) 24 56 (.int .u32 0) 4 Tryz.underlying24 info53_ rfl .i64 .i64 (xs.length + 1) (by omega) (by omega)
    rw [zeros_cells, show ((xs.length + 1 : Nat) : Int) = (xs.length : Int) + 1 by omega] at hmk
    rw [hM]
    clear hM
    go_enter Tryz.func153, Tryz.ntmps153
    go_wp2
    clear hmk
    go_loopw [6, 18] (SumRel xs ys w.heap.size (xs.length + 1) w) (fun _ s18 _ => ((xs.length : Int) + 1 - intOf s18).toNat)
    case atStart => exact ⟨0, [], 0, by omega, rfl, rfl, SumAt.zero xs ys, Own.zeros w _ 56 _ rfl, (Below.refl _ _).alloc (Nat.le_refl _) _⟩
    case round =>
      obtain ⟨j, os, cy, hj, rfl, rfl, hS, hO, hB⟩ := hrel
      by_cases hlt2 : j < xs.length + 1
      · have hA : Lim wr A xs := h.below hB
        have hC : Lim wr C ys := k.below hB
        obtain ⟨x0, x1⟩ := lim_i h.1 j
        obtain ⟨y0, y1⟩ := lim_i k.1 j
        have hcy : (cy : Int) ≤ 1 := by have := hS.carry; omega
        have hlen : j < (os ++ List.replicate (xs.length + 1 - j) 0).length := by rw [List.length_append, List.length_replicate, hS.len]; omega
        have hcell := hO.cell hlen
        have hfro := hO.frozen j
        have HS := Lib.hid hS
        have HO := Lib.hid hO
        have HL := Lib.hid hlen
        clear hS hO hlen
        have hjl : (j : Int) < (xs.length : Int) + 1 := by omega
        go_wp2_with (first | (go_at_call_of 192 (Value.slice A xs.length c); refine (limb_c A xs c j _ (by exact hA)).mono ?_; rintro e w1 ⟨rfl, rfl⟩) | (go_at_call_of 192 (Value.slice C ys.length d); refine (limb_c C ys d j _ (by exact hC)).mono ?_; rintro e w1 ⟨rfl, rfl⟩))
        go_roundw
        case rel => exact SumRel.step h.1 k.1 hlt2 HS.out HO.out hB (Nat.le_refl _)
        case measure => simp [intOf]; omega
      · obtain rfl : j = xs.length + 1 := by omega
        obtain ⟨hv, _⟩ := hS.done h.1 k.1 h1 h2
        have HL := Lib.hid hS.len
        have HV := Lib.hid hv
        have HO : Hid (Own wr w.heap.size os) := Lib.hid (by simpa using hO)
        clear hS hO hv
        go_wp2
        go_ret
        exact ⟨w.heap.size, os, by rw [HL.out]; rfl, Nat.le_refl _, HO.out, HV.out, by rw [HL.out]; exact Nat.le_refl _, hB⟩

set_option maxHeartbeats 1000000 in
theorem subtract_c (g : Nat) (C : Option Addr) (xs ys : List Nat) (c d : Nat) (w : World) (h : Own w g xs) (k : Lim w C ys) (hne : 0 < ys.length → ∀ ad, C = some ad → ad.block ≠ g) (hle : val ys ≤ val xs) (hl : xs.length ≤ 1048576) :
    Calls Tryz.prog 155 #[.slice (some ⟨g, 0, none⟩) xs.length c, .slice C ys.length d] w (Subbed g xs ys w) := by
  go_enter Tryz.func155, Tryz.ntmps155
  go_wp2
  go_step3
  go_wp2
  go_step3
  go_wp2
  go_loopw [4, 9] (SubRel xs ys g w) (fun _ s9 _ => ((xs.length : Int) - intOf s9).toNat)
  case atStart => exact ⟨0, xs, 0, by omega, rfl, rfl, SubAt.zero ys h.1, h, grown_refl w _⟩
  case round =>
    obtain ⟨j, os, cy, hj, rfl, rfl, hS, hO, hB⟩ := hrel
    by_cases hlt2 : j < xs.length
    · have hC : Lim wr C ys := k.grown' hB (fun h0 ad e => by simpa using hne h0 ad e)
      by_cases hst : ys.length ≤ j ∧ cy = 0
      · obtain ⟨q1, rfl⟩ := hst
        have HD := Lib.hid (hS.stop q1)
        have HO := Lib.hid hO
        have HL := Lib.hid hS.len
        have b1 : decide (ys.length ≤ j) = true := by simpa using q1
        clear hS hO
        go_wp2
        show bodyPost _ _ _ Exit.normal _ _
        go_end0
        exact ⟨os, rfl, HO.out, HD.out, HL.out, hB⟩
      · obtain ⟨x0, x1⟩ := lim_i h.1 j
        obtain ⟨y0, y1⟩ := lim_i k.1 j
        have hcy : (cy : Int) ≤ 1 := by have := hS.carry; omega
        have hjo : j < os.length := by rw [hS.len]; exact hlt2
        have hlx : lim os j = lim xs j := lim_rest (hS.rest j (Nat.le_refl _))
        have hcell := hO.cell hjo
        rw [hlx] at hcell
        have hfro := hO.frozen j
        have HS := Lib.hid hS
        have HO := Lib.hid hO
        have HJ := Lib.hid hjo
        clear hS hO hlx hjo
        have hst' : decide (ys.length ≤ j) = false ∨ decide (ys.length ≤ j) = true ∧ ((cy : Int) == 0) = false := by
          by_cases q : ys.length ≤ j
          · exact .inr ⟨by simpa using q, by simp; omega⟩
          · exact .inl (by simpa using q)
        clear hst
        rcases hst' with q | ⟨q, q2⟩
        all_goals
          go_wp2
          go_quiet ((go_at_call 192; exact Calls.quiet_of_same ((limb_c C ys d j _ (hC.drewN _)).mono fun _ _ ⟨a, b⟩ => ⟨a, b.symm⟩)))
          go_wp2
          go_roundw
          case rel => exact SubRel.step h.1 k.1 hlt2 HS.out HO.out hB
          case measure => simp [intOf]; omega
    · obtain rfl : j = xs.length := by omega
      have HD := Lib.hid (hS.done h.1 hle)
      have HO := Lib.hid hO
      have HL := Lib.hid hS.len
      clear hS hO
      go_wp2
      show bodyPost _ _ _ Exit.normal _ _
      go_end0
      exact ⟨os, rfl, HO.out, HD.out, HL.out, hB⟩

set_option maxHeartbeats 4000000 in
theorem product_c (A C : Option Addr) (xs ys : List Nat) (c d : Nat) (w : World) (h : Lim w A xs) (k : Lim w C ys) (hl : xs.length ≤ 1048576) (kl : ys.length ≤ 1048576) :
    Calls Tryz.prog 156 #[.slice A xs.length c, .slice C ys.length d] w (NewL (xs.length + ys.length) (val xs * val ys) w) := by
  have hmk := run_make_row' (P := Tryz.prog) 24 56 (.int .u32 0) 4 Tryz.underlying24 info53_ rfl .i64 .i64 (xs.length + ys.length) (by omega) (by omega)
  rw [zeros_cells, show ((xs.length + ys.length : Nat) : Int) = (xs.length : Int) + (ys.length : Int) by omega] at hmk
  go_enter Tryz.func156, Tryz.ntmps156
  go_wp2
  go_step3
  go_wp2
  go_step3
  go_wp2
  clear hmk
  go_loopw [20] (RowRel xs ys w.heap.size w) (fun s20 _ => ((xs.length : Int) - intOf s20).toNat)
  case atStart => exact ⟨0, _, by omega, rfl, RowAt.start xs ys, Own.zeros w _ 56 _ rfl, (Below.refl _ _).alloc (Nat.le_refl _) _⟩
  case round =>
    obtain ⟨i, os, hi, rfl, hR, hO, hB⟩ := hrel
    by_cases hlt : i < xs.length
    · obtain ⟨x0, x1⟩ := lim_i h.1 i
      obtain ⟨ad, rfl, hxc⟩ := (h.below hB).at_ hlt
      have HR := Lib.hid hR
      have HO := Lib.hid hO
      clear hR hO
      by_cases hz : lim xs i = 0
      · have hb := cast_eq hz
        have HZ := Lib.hid hz; clear hz
        go_wp2
        go_roundw
        case rel => exact ⟨i + 1, os, hlt, by rw [show ((i + 1 : Nat) : Int) = (i : Int) + 1 by omega], HR.out.skip HZ.out, HO.out, hB⟩
        case measure => simp [intOf]; omega
      · have hb := cast_ne hz
        clear hz
        obtain ⟨wo, rfl⟩ : ∃ wo : World, wo = wr := ⟨_, rfl⟩
        go_wp2
        go_loopw [8, 29] (LimbRel xs ys i w.heap.size w) (fun _ s29 _ => ((ys.length : Int) - intOf s29).toNat)
        case atStart => exact ⟨0, os, 0, by omega, rfl, rfl, HR.out.limbs, HO.out, hB⟩
        case round =>
          clear HR HO hxc
          obtain ⟨j, os, cy, hj, rfl, rfl, hS, hO, hB⟩ := hrel
          have hjo : i + j ≤ os.length := by rw [hS.len]; omega
          have hcy : (cy : Int) < 4294967296 := by have := hS.carry; have := B_eq; omega
          by_cases hlt2 : j < ys.length
          · have hjo : i + j < os.length := by rw [hS.len]; omega
            obtain ⟨y0, y1⟩ := lim_i k.1 j
            obtain ⟨o0, o1⟩ := lim_i hS.ok (i + j)
            obtain ⟨p0, p1⟩ := mul_i (lim_lt h.1 i) (lim_lt k.1 j)
            obtain ⟨ad2, rfl, hyc⟩ := (k.below hB).at_ hlt2
            have hcell := hO.cell hjo
            have hfro := hO.frozen (i + j)
            have eij : ((i : Int) + (j : Int)).toNat = i + j := by omega
            have hij : (i : Int) + (j : Int) < (xs.length : Int) + (ys.length : Int) := by omega
            have HS := Lib.hid hS
            have HO := Lib.hid hO
            clear hS hO hjo
            go_wp2
            go_roundw
            case rel => exact LimbRel.step h.1 k.1 hlt hlt2 HS.out HO.out hB (Nat.le_refl _)
            case measure => simp [intOf]; omega
          · obtain rfl : j = ys.length := by omega
            have hjo : i + ys.length < os.length := by rw [hS.len]; omega
            have hcell := hO.cell hjo
            have hfro := hO.frozen (i + ys.length)
            have eij : ((i : Int) + (ys.length : Int)).toNat = i + ys.length := by omega
            have hij : (i : Int) + (ys.length : Int) < (xs.length : Int) + (ys.length : Int) := by omega
            have HS := Lib.hid hS
            have HO := Lib.hid hO
            clear hS hO hjo
            go_wp2
            go_roundw
            case rel => exact ⟨i + 1, _, hlt, by rw [show ((i + 1 : Nat) : Int) = (i : Int) + 1 by omega], HS.out.row hlt, HO.out.set (by rw [HS.out.len]; omega) HS.out.carry, hB.setCell (Nat.le_refl _) _⟩
            case measure => simp [intOf]; omega
    · obtain rfl : i = xs.length := by omega
      have HV := Lib.hid hR.done
      have HO := Lib.hid hO
      have HL := Lib.hid hR.len
      clear hR hO
      go_wp2
      rw [Exit.noGoto_ret]
      go_ret
      exact ⟨w.heap.size, os, by rw [HL.out]; rfl, Nat.le_refl _, HO.out, HV.out, by rw [HL.out]; exact Nat.le_refl _, hB⟩

theorem subtract_i (g : Nat) (C : Option Addr) (xs ys : List Nat) (n c d : Nat) (w : World) (h : Own w g xs) (k : Lim w C ys) (hn : n = xs.length) (hne : 0 < ys.length → ∀ ad, C = some ad → ad.block ≠ g) (hle : val ys ≤ val xs) (hl : xs.length ≤ 1048576) :
    Calls Tryz.prog 155 #[.slice (some ⟨g, 0, none⟩) n c, .slice C ys.length d] w (Subbed g xs ys w) := by
  subst hn
  exact subtract_c g C xs ys c d w h k hne hle hl
set_option maxHeartbeats 4000000 in
theorem divide_c (A C : Option Addr) (xs ys : List Nat) (c d : Nat) (w : World) (h : Lim w A xs) (k : Lim w C ys) (hl : xs.length ≤ 1024) (kl : ys.length ≤ 1024) (hy : 0 < val ys) :
    Calls Tryz.prog 157 #[.slice A xs.length c, .slice C ys.length d] w (NewQR xs.length (ys.length + 1) (val xs / val ys) (val xs % val ys) w) := by
  have hmk := run_make_row' (P := Tryz.prog) 24 56 (.int .u32 0) 4 Tryz.underlying24 info53_ rfl .i64 .i64 xs.length (by omega) (by omega)
  have hmk2 := run_make_row' (P := Tryz.prog) 24 56 (.int .u32 0) 4 Tryz.underlying24 info53_ rfl .i64 .i64 (ys.length + 1) (by omega) (by omega)
  rw [zeros_cells] at hmk
  rw [zeros_cells, show ((ys.length + 1 : Nat) : Int) = (ys.length : Int) + 1 by omega] at hmk2
  obtain ⟨ady, rfl, hyb, _⟩ := k.2 (by rcases ys with _ | ⟨y, ys⟩; exact absurd hy (by simp [val]); simp)
  go_enter Tryz.func157, Tryz.ntmps157
  go_wp2
  go_step3
  go_wp2
  go_step3
  go_wp2
  clear hmk hmk2
  go_loopw [6] (DivRel xs ys w.heap.size w) (fun s6 _ => (intOf s6 + 1).toNat)
  case atStart =>
    refine ⟨xs.length * 32, 0, 0, _, _, Nat.le_refl _, by rw [show ((xs.length * 32 : Nat) : Int) = (xs.length : Int) * 32 by omega], DivAt.top ?_ hy, (Own.zeros w _ 56 _ rfl).alloc _, by simp, by rw [val_zeros, Nat.mul_zero], Own.zeros' _ _ _ _ _ rfl (by simp), by simp, val_zeros _, ((Below.refl _ _).alloc (Nat.le_refl _) _).alloc (by simp) _⟩
    rw [Nat.mul_comm, ← pow_bits]
    exact val_lt h.1
  case round =>
    obtain ⟨j, Q, R, os, rs, hj, rfl, hD, hO, hol, hoq, hR, hrl, hrr, hB⟩ := hrel
    rcases j with _ | i
    · obtain ⟨hq, hr⟩ := hD.done
      have HQ : Hid (val os = val xs / val ys) := Lib.hid (by rw [hoq, hq]; simp)
      have HR2 : Hid (val rs = val xs % val ys) := Lib.hid (by rw [hrr, hr])
      have HO := Lib.hid hO
      have HR := Lib.hid hR
      have HOL := Lib.hid hol
      have HRL := Lib.hid hrl
      clear hD hO hR hol hoq hrl hrr hq hr
      go_wp2
      rw [Exit.noGoto_ret]
      go_ret2
      exact ⟨os, rs, by rw [HOL.out, HRL.out]; rfl, HO.out, HR.out, HQ.out, HR2.out, by rw [HOL.out]; exact Nat.le_refl _, by rw [HRL.out]; exact Nat.le_refl _, hB⟩
    · rw [show ((i + 1 : Nat) : Int) - 1 = i by omega]
      have hix : i / 32 < xs.length := by omega
      obtain ⟨ad, rfl, hxc⟩ := (h.below hB).at_ hix
      have ei : ((i : Int) / 32).toNat = i / 32 := by omega
      have ei1 : (i : Int) / 32 < (xs.length : Int) := by omega
      obtain ⟨x0, x1⟩ := lim_i h.1 (i / 32)
      have HB := Lib.hid (bit_of h.1 i)
      have HD := Lib.hid hD
      have HO := Lib.hid hO
      have HR := Lib.hid hR
      have HOL := Lib.hid hol
      have HOQ := Lib.hid hoq
      have HRL := Lib.hid hrl
      have HRR := Lib.hid hrr
      clear hD hO hR hol hoq hrl hrr
      go_wp2_with fail
      refine (grow_i _ _ _ _ 2 (lim xs (i / 32) / 2 ^ (i % 32) % 2) _ _ _ HR.out HRL.out.symm rfl (bit_i (lim_lt h.1 _)) (by decide) (by have := B_eq; omega) (by have := HRL.out; omega)).mono ?_
      rintro e w1 ⟨rs1, cy, rfl, hR1, hv1, hl1, hc1, hg1⟩
      have HV1 : Hid (val rs1 = 2 * R + val xs / 2 ^ i % 2) := Lib.hid (by
        rw [HRL.out, HRR.out] at hv1
        have := grow_zero hv1 (Nat.mod_lt _ (by decide)) HD.out.lt (Nat.le_of_lt (val_lt k.1))
        rw [this, HB.out])
      have hC1 : Lim w1 (some ady) ys := (k.below hB).grown hg1 (fun ad e => by injection e with e; subst e; simp; omega)
      have HB1 := Lib.hid (hB.grown hg1 hB.size (fun k e => by injection e with e; omega))
      have HO1 := Lib.hid (HO.out.grown hg1 (by simp))
      have HL1 : Hid (rs1.length = ys.length + 1) := Lib.hid (by rw [hl1, HRL.out])
      have HR1 := Lib.hid hR1
      clear hv1 hl1 hc1 hg1 hR1
      rcases Nat.lt_or_ge (val rs1) (val ys) with hlt | hge
      · have HE := Lib.hid (cmpI_lt hlt)
        have HLT := Lib.hid hlt
        clear hlt
        go_wp2_with fail
        refine (compare_i _ _ _ _ _ _ _ _ HR1.out.toLim hC1 HL1.out.symm (by rw [HL1.out]; omega) (by omega)).mono ?_
        rintro e w2 ⟨rfl, rfl⟩
        rw [HE.out]
        go_wp2
        go_roundw
        case rel =>
          refine ⟨i, _, _, os, rs1, by omega, rfl, HD.out.low (by rw [← HV1.out]; exact HLT.out), HO1.out, HOL.out, ?_, HR1.out, HL1.out, HV1.out, HB1.out⟩
          rw [HOQ.out, Nat.pow_succ, Nat.mul_assoc]
        case measure => simp [intOf]
      · obtain ⟨z, hz, hz0⟩ := cmpI_ge hge
        have HZ := Lib.hid hz
        have HGE := Lib.hid hge
        clear hge hz
        have hzd : decide (z < 0) = false := by simpa using hz0
        go_wp2_with fail
        refine (compare_i _ _ _ _ _ _ _ _ HR1.out.toLim hC1 HL1.out.symm (by rw [HL1.out]; omega) (by omega)).mono ?_
        rintro e w2 ⟨rfl, rfl⟩
        rw [HZ.out]
        go_wp2_with fail
        refine (subtract_i _ _ _ _ _ _ _ _ HR1.out hC1 HL1.out.symm (fun _ ad e => by injection e with e; subst e; omega) HGE.out (by rw [HL1.out]; omega)).mono ?_
        rintro e w2 ⟨rs2, rfl, hR2, hv2, hl2, hg2⟩
        have hV2 : val rs2 = 2 * R + val xs / 2 ^ i % 2 - val ys := by have := HV1.out; omega
        have HO2 := HO1.out.grown hg2 (by simp)
        have hoi : i / 32 < os.length := by rw [HOL.out]; exact hix
        have hcell := HO2.cell hoi
        have hfro := HO2.frozen (i / 32)
        obtain ⟨hs1, hs2⟩ := set_bit HO1.out.1 hoi HOQ.out
        obtain ⟨b0, b1, b2⟩ := orbit_i (b := i % 32) (lim_lt HO1.out.1 (i / 32)) (Nat.mod_lt _ (by decide))
        have HB2 := Lib.hid (HB1.out.grown hg2 HB1.out.size (fun k e => by injection e with e; omega))
        have HO3 := Lib.hid HO2
        have HS1 := Lib.hid hs1
        have HS2 := Lib.hid hs2
        have HR2 := Lib.hid hR2
        have HV2 := Lib.hid hV2
        have HL2 : Hid (rs2.length = ys.length + 1) := Lib.hid (by rw [hl2, HL1.out])
        clear hv2 hl2 hg2 HO2 hs1 hs2 hR2 hV2 hoi
        go_wp2
        go_region
        all_goals
          go_wp2
          go_roundw
          case rel => exact ⟨i, _, _, _, rs2, by omega, rfl, HD.out.high (by rw [← HV1.out]; exact HGE.out), (HO3.out.set (by rw [HOL.out]; exact hix) HS2.out).drew, by rw [List.length_set]; exact HOL.out, HS1.out, (HR2.out.far (by simp) _).drew, HL2.out, HV2.out, (HB2.out.setCell (Nat.le_refl _) _).drew⟩
          case measure => simp [intOf]

set_option maxHeartbeats 1000000 in
theorem fitting_c (neg : Bool) (A : Option Addr) (xs : List Nat) (n c : Nat) (w : World) (h : Lim w A xs) (hn : n = xs.length) (hl : xs.length ≤ c) (hc : c ≤ 9223372036854775807) :
    Calls Tryz.prog 152 #[.bool neg, .slice A n c] w (RetBigOk (sgn neg (val xs)) w) := by
  subst hn
  obtain ⟨m, hm⟩ : ∃ m, val xs = m := ⟨_, rfl⟩
  have hL := h.dig
  have hd := (dig_head h.1).2
  rw [hm] at hL hd
  rw [hm]
  have HM := Lib.hid hm; clear hm
  obtain ⟨L, hlen⟩ : ∃ L, (dig m).length = L := ⟨_, rfl⟩
  by_cases h0 : m < B ^ 8
  · have hL8 : (L : Int) ≤ 8 := by rw [← hlen]; have := dig_long.2 h0; omega
    have HL := Lib.hid hlen; clear hlen
    go_enter Tryz.func152, Tryz.ntmps152
    go_wp2_with (go_at_call 158; refine (trim_c _ _ _ _ (h.alloc _) hl hc).mono ?_; rintro e w1 ⟨rfl, rfl⟩; rw [HM.out, HL.out])
    have ev : sgn neg (val (dig m)) = sgn neg m := by rw [val_dig]
    have EV := Lib.hid ev; clear ev
    refine (made_c neg A (dig m) _ c _ (hL.alloc _) HL.out.symm (Nat.le_trans hd hl) hc).mono ?_
    rintro e w1 ⟨A1, c1, rfl, q1, q2, q3, ⟨x1, rfl⟩⟩
    rw [EV.out] at q1 q3 ⊢
    have Q1 := Lib.hid q1; clear q1
    have Q3 := Lib.hid q3; clear q3
    go_wp2_with fail
    go_returns
    refine ⟨A1, c1, _, true, rfl, by rw [sgn_abs]; simp [h0], by rw [sgn_abs, if_pos h0], Q1.out, q2, ?_, ?_⟩
    · exact Q3.out.res
    · repeat' (first | exact Plus.refl _ | refine Plus.alloc ?_ _ | refine Plus.plus ?_ _ | refine Plus.drew ?_ | refine Plus.drewN ?_ _)
  · have hL8 : 8 < (L : Int) := by rw [← hlen]; have := mt dig_long.1 h0; omega
    have HL := Lib.hid hlen; clear hlen
    go_enter Tryz.func152, Tryz.ntmps152
    go_wp2_with (go_at_call 158; refine (trim_c _ _ _ _ (h.alloc _) hl hc).mono ?_; rintro e w1 ⟨rfl, rfl⟩; rw [HM.out, HL.out])
    go_returns
    refine ⟨none, 0, 0, false, by rw [show (0 : Int).natAbs = 0 from rfl, dig_zero]; rfl, by rw [sgn_abs]; simp [h0], by rw [sgn_abs, if_neg h0], by rw [show (0 : Int).natAbs = 0 from rfl, dig_zero]; exact Nat.le_refl _, by omega, by rw [show (0 : Int).natAbs = 0 from rfl, dig_zero]; exact Lim.nil, (Plus.refl _).alloc _⟩

end Go.Proofs.YtgljfgkkolfnbaaGreatDoor.Bg
