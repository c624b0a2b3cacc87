/- Contracts of package big: trim, grow, made, isCount, Parse. -/
import Derived.WalkKit
import Derived.WalkSpells
import Derived.WalkLawsBesides
import Derived.Handy
import Derived.Deep.RegionHeld3
import Derived.Deep.DeepCutAuto
import Derived.Deep.QuietTactic
import Derived.BigQuiet
import Derived.Lib.Hide
import Derived.KernelRfl
import Derived.WalkMore
import Derived.Deep.LoopGhost
import Derived.Laws.BitsAllLaws
import Derived.Laws.DeepBits32
import Derived.IntWalk
import Derived.Deep.OwnRows
import Derived.Test.YtaigkjffglbknaaDoorGW
import Derived.Test.YtaigkjffglbknaaDoorP
import Derived.Test.YtaigkjffglbknaaDoorH
namespace Go.Proofs.YtaigkjffglbknaaDoor.Bg
open Go.RowKit




/-- The limbs from k on are zeros. -/
def Zer (xs : List Nat) (k : Nat) : Prop := ∀ i, k ≤ i → i < xs.length → xs[i]? = some 0
theorem Zer.all (xs : List Nat) : Zer xs xs.length := fun i h1 h2 => absurd h2 (by omega)
theorem Zer.down {xs : List Nat} {k : Nat} (h : Zer xs (k + 1)) (hz : lim xs k = 0) : Zer xs k := fun i h1 h2 => by
  by_cases e : i = k
  · subst e
    rw [List.getElem?_eq_getElem h2, ← lim_in h2, hz]
  · exact h i (by omega) h2
theorem trim_k {xs : List Nat} {k : Nat} (ho : okL xs) (hk : k ≤ xs.length) (h : Zer xs k) (ht : k = 0 ∨ lim xs (k - 1) ≠ 0) : xs.take k = dig (val xs) := dig_take ho h ht hk
theorem cast_ne {a : Nat} (h : a ≠ 0) : ((a : Int) == 0) = false := by simpa using h
theorem cast_eq {a : Nat} (h : a = 0) : ((a : Int) == 0) = true := by subst h; rfl

set_option maxHeartbeats 1000000 in
theorem trim_c (A : Option Addr) (xs : List Nat) (c : Nat) (w : World) (h : Lim w A xs) (hl : xs.length ≤ c) (hc : c ≤ 9223372036854775807) :
    Calls Tryd.prog 81 #[.slice A xs.length c] w fun e w' => e = .returned (.slice A (dig (val xs)).length c) ∧ w = w' := by
  go_enter Tryd.func81, Tryd.ntmps81
  go_wp2
  go_loop [3] (fun s => ∃ k : Nat, k ≤ xs.length ∧ s = .int .i64 k ∧ Zer xs k) (fun s => (intOf s).toNat)
  case atStart => exact ⟨xs.length, Nat.le_refl _, rfl, Zer.all xs⟩
  case round =>
    obtain ⟨k, hk, rfl, hz⟩ := hrel
    by_cases h0 : 0 < k
    · obtain ⟨ad, rfl, hcell⟩ := h.at_ (k := k - 1) (by omega)
      have e1 : ((k : Int) - 1).toNat = k - 1 := by omega
      by_cases hv : lim xs (k - 1) = 0
      · have hb := cast_eq hv
        go_wp2
        go_round
        case rel => exact ⟨k - 1, by omega, by rw [show ((k - 1 : Nat) : Int) = (k : Int) - 1 by omega], Zer.down (by rw [show k - 1 + 1 = k by omega]; exact hz) hv⟩
        case measure => simp [intOf]; omega
      · have hb := cast_ne hv
        have HK := Lib.hid (trim_k h.1 hk hz (.inr hv))
        have HL : Hid ((dig (val xs)).length = k) := by rw [← HK.out, List.length_take, Nat.min_eq_left hk]; exact rfl
        go_wp2
        go_ret
        exact ⟨by rw [HL.out]; rfl, rfl⟩
    · obtain rfl : k = 0 := by omega
      have HK := Lib.hid (trim_k h.1 hk hz (.inl rfl))
      have HL : Hid ((dig (val xs)).length = 0) := by rw [← HK.out, List.length_take, Nat.min_eq_left hk]; exact rfl
      go_wp2
      go_ret
      exact ⟨by rw [HL.out]; rfl, rfl⟩



theorem trim_ex (xs : List Nat) : ∀ k, k ≤ xs.length → Zer xs k → ∃ j, j ≤ k ∧ Zer xs j ∧ (j = 0 ∨ lim xs (j - 1) ≠ 0)
  | 0, _, h => ⟨0, Nat.le_refl _, h, .inl rfl⟩
  | k + 1, hk, h => by
    by_cases hv : lim xs k = 0
    · obtain ⟨j, h1, h2, h3⟩ := trim_ex xs k (by omega) (h.down hv)
      exact ⟨j, by omega, h2, h3⟩
    · exact ⟨k + 1, Nat.le_refl _, h, .inr (by simpa using hv)⟩
theorem dig_head {xs : List Nat} (ho : okL xs) : xs.take (dig (val xs)).length = dig (val xs) ∧ (dig (val xs)).length ≤ xs.length := by
  obtain ⟨j, h1, h2, h3⟩ := trim_ex xs xs.length (Nat.le_refl _) (Zer.all xs)
  have e := trim_k ho h1 h2 h3
  have el : (dig (val xs)).length = j := by rw [← e, List.length_take, Nat.min_eq_left h1]
  rw [el]
  exact ⟨e, h1⟩
theorem Lim.dig {w : World} {A : Option Addr} {xs : List Nat} (h : Lim w A xs) : Lim w A (dig (val xs)) := by
  rw [← (dig_head h.1).1]
  exact h.take _
theorem dig_len_zero {n : Nat} : (((dig n).length : Int) == 0) = (n == 0) := by
  by_cases h : n = 0
  · subst h; rw [dig_zero]; rfl
  · have e : (dig n).length = (dig (n / B)).length + 1 := by rw [dig_pos h]; rfl
    have e1 : (((dig n).length : Int) == 0) = false := by rw [e]; simp; omega
    have e2 : (n == 0) = false := by simpa using h
    rw [e1, e2]



theorem info53 : (Tryd.prog.info? 76).map (fun i => (i.zero, i.size, i.bytes)) = some (some (.int .u32 0), 1, 4) := by kernel_rfl
/-- A new slice of at most L limbs, with the number V. -/
def NewL (L V : Nat) (w : World) (e : Ending) (w' : World) : Prop :=
  ∃ (g : Nat) (os : List Nat), e = .returned (.slice (some ⟨g, 0, none⟩) os.length os.length) ∧ w.heap.size ≤ g ∧ Own w' g os ∧ val os = V ∧ os.length ≤ L ∧ Below w.heap.size w w'
theorem zeros_cells (n : Nat) : madeCells #[.int .u32 0] n = Array.replicate n (.int .u32 0) := by
  apply Array.ext'
  rw [toList_madeCells_one]
  simp
theorem lim_i {xs : List Nat} (h : okL xs) (k : Nat) : (0 : Int) ≤ (lim xs k : Nat) ∧ ((lim xs k : Nat) : Int) < 4294967296 := by
  have := lim_lt h k
  have e := B_eq
  omega
theorem set_here {os : List Nat} {k n v : Nat} (h : os.length = k) (hk : k < n) : (os ++ List.replicate (n - k) 0).set k v = (os ++ [v]) ++ List.replicate (n - (k + 1)) 0 := by
  have e : n - k = (n - (k + 1)) + 1 := by omega
  rw [e, List.replicate_succ, List.set_append_right _ _ (by omega), h, Nat.sub_self, List.set_cons_zero]
  simp
def SumRel (xs ys : List Nat) (g n : Nat) (w : World) (s6 s18 : Value) (wr : World) : Prop :=
  ∃ (k : Nat) (os : List Nat) (c : Nat), k ≤ n ∧ s6 = .int .u64 c ∧ s18 = .int .i64 k ∧ SumAt xs ys k os c ∧ Own wr g (os ++ List.replicate (n - k) 0) ∧ Below w.heap.size w wr
theorem SumRel.step {xs ys : List Nat} {g n k c : Nat} {os : List Nat} {w wr : World} (hx : okL xs) (hy : okL ys) (hk : k < n) (hS : SumAt xs ys k os c) (hO : Own wr g (os ++ List.replicate (n - k) 0)) (hB : Below w.heap.size w wr) (hg : w.heap.size ≤ g) :
    SumRel xs ys g n w (.int .u64 (((lim xs k : Nat) + (lim ys k : Nat) + (c : Nat) : Int) / 4294967296)) (.int .i64 ((k : Int) + 1)) (wr.setCell ⟨g, k, none⟩ (.int .u32 (((lim xs k : Nat) + (lim ys k : Nat) + (c : Nat) : Int) % 4294967296))) := by
  have e1 : (((lim xs k : Nat) + (lim ys k : Nat) + (c : Nat) : Int) / 4294967296) = (((lim xs k + lim ys k + c) / B : Nat) : Int) := by rw [B_eq]; omega
  have e2 : (((lim xs k : Nat) + (lim ys k : Nat) + (c : Nat) : Int) % 4294967296) = (((lim xs k + lim ys k + c) % B : Nat) : Int) := by rw [B_eq]; omega
  rw [e1, e2]
  refine ⟨k + 1, _, _, by omega, rfl, by rw [show ((k + 1 : Nat) : Int) = (k : Int) + 1 by omega], hS.succ hx hy, ?_, hB.setCell hg _⟩
  rw [← set_here hS.len hk]
  exact hO.set (by rw [List.length_append, List.length_replicate, hS.len]; omega) (Nat.mod_lt _ B_pos)



theorem Lim.grown' {w w' : World} {A : Option Addr} {xs : List Nat} (h : Lim w A xs) {row : Option Nat} (hg : w.grownBy w' row) (hr : 0 < xs.length → ∀ ad, A = some ad → some ad.block ≠ row) : Lim w' A xs := by
  by_cases h0 : 0 < xs.length
  · exact h.grown hg (hr h0)
  · have : xs = [] := List.eq_nil_of_length_eq_zero (by omega)
    subst this
    exact Lim.nil
/-- Of old memory block g alone may have turned: it holds os now. -/
def Subbed (g : Nat) (xs ys : List Nat) (w : World) (e : Ending) (w' : World) : Prop :=
  ∃ os, e = .returned (.tuple #[]) ∧ Own w' g os ∧ val os + val ys = val xs ∧ os.length = xs.length ∧ w.grownBy w' (some g)
def SubRel (xs ys : List Nat) (g : Nat) (w : World) (s4 s9 : Value) (wr : World) : Prop :=
  ∃ (k : Nat) (os : List Nat) (c : Nat), k ≤ xs.length ∧ s4 = .int .u64 c ∧ s9 = .int .i64 k ∧ SubAt xs ys k os c ∧ Own wr g os ∧ w.grownBy wr (some g)
theorem SubRel.step {xs ys : List Nat} {g k c n : Nat} {os : List Nat} {w wr : World} (hx : okL xs) (hy : okL ys) (hk : k < xs.length) (hS : SubAt xs ys k os c) (hO : Own wr g os) (hB : w.grownBy wr (some g)) :
    SubRel xs ys g w (.int .u64 (1 - (4294967296 + (lim xs k : Nat) - (lim ys k : Nat) - (c : Nat) : Int) / 4294967296)) (.int .i64 ((k : Int) + 1)) ((wr.drewN n).setCell ⟨g, k, none⟩ (.int .u32 ((4294967296 + (lim xs k : Nat) - (lim ys k : Nat) - (c : Nat) : Int) % 4294967296))) := by
  have hc := hS.carry
  have x1 := lim_lt hx k
  have y1 := lim_lt hy k
  have eB := B_eq
  have e0 : (4294967296 + (lim xs k : Nat) - (lim ys k : Nat) - (c : Nat) : Int) = ((B + lim xs k - lim ys k - c : Nat) : Int) := by omega
  have e1 : 1 - ((B + lim xs k - lim ys k - c : Nat) : Int) / 4294967296 = ((1 - (B + lim xs k - lim ys k - c) / B : Nat) : Int) := by
    have : (B + lim xs k - lim ys k - c) / B ≤ 1 := by rw [Nat.div_le_iff_le_mul_add_pred B_pos]; omega
    have h2 : ((B + lim xs k - lim ys k - c : Nat) : Int) / 4294967296 = (((B + lim xs k - lim ys k - c) / B : Nat) : Int) := by rw [B_eq]; omega
    rw [h2]; omega
  have e2 : ((B + lim xs k - lim ys k - c : Nat) : Int) % 4294967296 = (((B + lim xs k - lim ys k - c) % B : Nat) : Int) := by rw [B_eq]; omega
  rw [e0, e1, e2]
  exact ⟨k + 1, _, _, by omega, rfl, by rw [show ((k + 1 : Nat) : Int) = (k : Int) + 1 by omega], hS.succ hx hy hk, (hO.drewN n).set (by rw [hS.len]; exact hk) (Nat.mod_lt _ B_pos), grown_trans (grown_drewN hB n) (grown_set _ _ _ _)⟩



def Grown (g : Nat) (xs : List Nat) (q m : Nat) (w : World) (e : Ending) (w' : World) : Prop :=
  ∃ (os : List Nat) (c : Nat), e = .returned (.int .u32 c) ∧ Own w' g os ∧ val os + B ^ xs.length * c = val xs * q + m ∧ os.length = xs.length ∧ c < B ∧ w.grownBy w' (some g)
def GrowRel (xs : List Nat) (q m g : Nat) (w : World) (s7 s15 : Value) (wr : World) : Prop :=
  ∃ (k : Nat) (os : List Nat) (c : Nat), k ≤ xs.length ∧ s7 = .int .u64 c ∧ s15 = .int .i64 k ∧ GrowAt xs q m k os c ∧ Own wr g os ∧ w.grownBy wr (some g)
theorem mul_i {x q : Nat} (hx : x < B) (hq : q < B) : (0 : Int) ≤ (x : Int) * (q : Int) ∧ (x : Int) * (q : Int) ≤ 18446744065119617025 := by
  have h : x * q ≤ (B - 1) * (B - 1) := Nat.mul_le_mul (by omega) (by omega)
  have e : (B - 1) * (B - 1) = 18446744065119617025 := rfl
  have c : ((x * q : Nat) : Int) = (x : Int) * (q : Int) := Int.natCast_mul x q
  omega
theorem GrowRel.step {xs : List Nat} {q m g k c : Nat} {os : List Nat} {w wr : World} (hx : okL xs) (hq : q < B) (hk : k < xs.length) (hS : GrowAt xs q m k os c) (hO : Own wr g os) (hB : w.grownBy wr (some g)) :
    GrowRel xs q m g w (.int .u64 (((lim xs k : Nat) * (q : Nat) + (c : Nat) : Int) / 4294967296)) (.int .i64 ((k : Int) + 1)) (wr.setCell ⟨g, k, none⟩ (.int .u32 (((lim xs k : Nat) * (q : Nat) + (c : Nat) : Int) % 4294967296))) := by
  have e0 : ((lim xs k : Nat) * (q : Nat) + (c : Nat) : Int) = ((lim xs k * q + c : Nat) : Int) := by rw [Int.natCast_add, Int.natCast_mul]
  have e1 : ((lim xs k * q + c : Nat) : Int) / 4294967296 = (((lim xs k * q + c) / B : Nat) : Int) := by rw [B_eq]; omega
  have e2 : ((lim xs k * q + c : Nat) : Int) % 4294967296 = (((lim xs k * q + c) % B : Nat) : Int) := by rw [B_eq]; omega
  rw [e0, e1, e2]
  exact ⟨k + 1, _, _, by omega, rfl, by rw [show ((k + 1 : Nat) : Int) = (k : Int) + 1 by omega], hS.succ hx hq hk, hO.set (by rw [hS.len]; exact hk) (Nat.mod_lt _ B_pos), grown_trans hB (grown_set _ _ _ _)⟩

set_option maxHeartbeats 1000000 in
theorem grow_c (g : Nat) (xs : List Nat) (c q m : Nat) (w : World) (h : Own w g xs) (hq : q < B) (hm : m < B) (hl : xs.length ≤ 1048576) :
    Calls Tryd.prog 73 #[.slice (some ⟨g, 0, none⟩) xs.length c, .int .u32 q, .int .u32 m] w (Grown g xs q m w) := by
  have q0 : (q : Int) < 4294967296 := by have := B_eq; omega
  have m0 : (m : Int) < 4294967296 := by have := B_eq; omega
  go_enter Tryd.func73, Tryd.ntmps73
  go_wp2
  go_loopw [7, 15] (GrowRel xs q m g w) (fun _ s15 _ => ((xs.length : Int) - intOf s15).toNat)
  case atStart => exact ⟨0, xs, m, by omega, rfl, rfl, GrowAt.zero h.1 q hm, h, grown_refl w _⟩
  case round =>
    obtain ⟨j, os, cy, hj, rfl, rfl, hS, hO, hB⟩ := hrel
    by_cases hlt2 : j < xs.length
    · obtain ⟨x0, x1⟩ := lim_i h.1 j
      obtain ⟨p0, p1⟩ := mul_i (lim_lt h.1 j) hq
      have hcy : (cy : Int) < 4294967296 := by have := hS.carry; have := B_eq; omega
      have hjo : j < os.length := by rw [hS.len]; exact hlt2
      have hlx : lim os j = lim xs j := lim_rest (hS.rest j (Nat.le_refl _))
      have hcell := hO.cell hjo
      rw [hlx] at hcell
      have hfro := hO.frozen j
      have HS := Lib.hid hS
      have HO := Lib.hid hO
      clear hS hO hlx hjo hm
      go_wp2
      go_roundw
      case rel => exact GrowRel.step h.1 hq hlt2 HS.out HO.out hB
      case measure => simp [intOf]; omega
    · obtain rfl : j = xs.length := by omega
      have hcy : (cy : Int) < 4294967296 := by have := hS.carry; have := B_eq; omega
      have HD := Lib.hid hS.done
      have HO := Lib.hid hO
      have HL := Lib.hid hS.len
      have HC := Lib.hid hS.carry
      clear hS hO hm
      go_wp2
      go_ret
      exact ⟨os, cy, rfl, HO.out, HD.out, HL.out, HC.out, hB⟩

theorem or_add (r x : Nat) (hx : x < B) : (r * 4294967296 ||| x) = B * r + x := by
  have h := Nat.two_pow_add_eq_or_of_lt (i := 32) (b := x) (by rw [← B_two]; exact hx) r
  rw [B_two, Nat.mul_comm r]
  exact h.symm
theorem shr_i {r x q : Nat} (hx : x < B) (hr : r < q) (hq : q < B) :
    bits BinOp.or IntKind.u64 ((r : Int) * 4294967296) (x : Int) = ((B * r + x : Nat) : Int) ∧ (0 : Int) ≤ ((B * r + x : Nat) : Int) / (q : Int) ∧ ((B * r + x : Nat) : Int) / (q : Int) < 4294967296 ∧ (0 : Int) ≤ ((B * r + x : Nat) : Int) % (q : Int) ∧ ((B * r + x : Nat) : Int) % (q : Int) < 4294967296 := by
  have eB := B_eq
  have q0 : 0 < q := by omega
  refine ⟨?_, ?_, ?_, ?_, ?_⟩
  · have e : (r : Int) * 4294967296 = ((r * 4294967296 : Nat) : Int) := by omega
    rw [e, u64_or_nat _ _ (by omega) (by omega), or_add r x hx]
  · rw [← Int.natCast_ediv]; exact Int.natCast_nonneg _
  · rw [← Int.natCast_ediv]
    have : (B * r + x) / q < B := by
      rw [Nat.div_lt_iff_lt_mul q0]
      have h2 : B * (r + 1) ≤ B * q := Nat.mul_le_mul_left _ hr
      rw [Nat.mul_succ] at h2
      omega
    omega
  · rw [← Int.natCast_emod]; exact Int.natCast_nonneg _
  · rw [← Int.natCast_emod]
    have := Nat.mod_lt (B * r + x) q0
    omega
def Shrunk (g : Nat) (xs : List Nat) (q : Nat) (w : World) (e : Ending) (w' : World) : Prop :=
  ∃ (os : List Nat), e = .returned (.int .u32 (val xs % q : Nat)) ∧ Own w' g os ∧ val os = val xs / q ∧ os.length = xs.length ∧ w.grownBy w' (some g)
def ShrinkRel (xs : List Nat) (q g : Nat) (w : World) (s5 s6 : Value) (wr : World) : Prop :=
  ∃ (k : Nat) (os : List Nat) (r : Nat), k ≤ xs.length ∧ s5 = .int .u64 r ∧ s6 = .int .i64 (k - 1 : Int) ∧ ShrinkAt xs q k os r ∧ Own wr g os ∧ w.grownBy wr (some g)
theorem ShrinkRel.step {xs : List Nat} {q g k r st : Nat} {os : List Nat} {w wr : World} (hx : okL xs) (hq : q < B) (hk : k < xs.length) (hst : B * r + lim xs k = st) (hS : ShrinkAt xs q (k + 1) os r) (hO : Own wr g os) (hB : w.grownBy wr (some g)) :
    ShrinkRel xs q g w (.int .u64 ((st : Int) % (q : Int))) (.int .i64 ((k : Int) - 1)) (wr.setCell ⟨g, k, none⟩ (.int .u32 ((st : Int) / (q : Int)))).drew := by
  subst hst
  have hS' := hS.succ hx (Nat.le_of_lt hq) hk
  rw [← Int.natCast_ediv, ← Int.natCast_emod]
  have hv : (B * r + lim xs k) / q < B := by
    have q0 : 0 < q := Nat.lt_of_le_of_lt (Nat.zero_le _) hS.rest
    rw [Nat.div_lt_iff_lt_mul q0]
    have h2 : B * (r + 1) ≤ B * q := Nat.mul_le_mul_left _ hS.rest
    have h3 := lim_lt hx k
    rw [Nat.mul_succ] at h2
    omega
  exact ⟨k, _, _, by omega, rfl, rfl, hS', (hO.set (by rw [hS.len]; exact hk) hv).drew, grown_drew (grown_trans hB (grown_set _ _ _ _))⟩



def RowRel (xs ys : List Nat) (g : Nat) (w : World) (s20 : Value) (wr : World) : Prop :=
  ∃ (i : Nat) (os : List Nat), i ≤ xs.length ∧ s20 = .int .i64 i ∧ RowAt xs ys i os ∧ Own wr g os ∧ Below w.heap.size w wr
def LimbRel (xs ys : List Nat) (i g : Nat) (w : World) (s8 s29 : Value) (wr : World) : Prop :=
  ∃ (k : Nat) (os : List Nat) (c : Nat), k ≤ ys.length ∧ s8 = .int .u64 c ∧ s29 = .int .i64 k ∧ LimbAt xs ys i k os c ∧ Own wr g os ∧ Below w.heap.size w wr
theorem LimbRel.step {xs ys : List Nat} {g i k c : Nat} {os : List Nat} {w wr : World} (hx : okL xs) (hy : okL ys) (hi : i < xs.length) (hk : k < ys.length) (hS : LimbAt xs ys i k os c) (hO : Own wr g os) (hB : Below w.heap.size w wr) (hg : w.heap.size ≤ g) :
    LimbRel xs ys i g w (.int .u64 (((lim xs i : Nat) * (lim ys k : Nat) + (lim os (i + k) : Nat) + (c : Nat) : Int) / 4294967296)) (.int .i64 ((k : Int) + 1)) (wr.setCell ⟨g, i + k, none⟩ (.int .u32 (((lim xs i : Nat) * (lim ys k : Nat) + (lim os (i + k) : Nat) + (c : Nat) : Int) % 4294967296))) := by
  have e0 : ((lim xs i : Nat) * (lim ys k : Nat) + (lim os (i + k) : Nat) + (c : Nat) : Int) = ((lim xs i * lim ys k + lim os (i + k) + c : Nat) : Int) := by rw [Int.natCast_add, Int.natCast_add, Int.natCast_mul]
  have e1 : ((lim xs i * lim ys k + lim os (i + k) + c : Nat) : Int) / 4294967296 = (((lim xs i * lim ys k + lim os (i + k) + c) / B : Nat) : Int) := by rw [B_eq]; omega
  have e2 : ((lim xs i * lim ys k + lim os (i + k) + c : Nat) : Int) % 4294967296 = (((lim xs i * lim ys k + lim os (i + k) + c) % B : Nat) : Int) := by rw [B_eq]; omega
  rw [e0, e1, e2]
  exact ⟨k + 1, _, _, by omega, rfl, by rw [show ((k + 1 : Nat) : Int) = (k : Int) + 1 by omega], hS.succ hx hy hi hk, hO.set (by rw [hS.len]; omega) (Nat.mod_lt _ B_pos), hB.setCell hg _⟩



theorem grow_i (g : Nat) (xs : List Nat) (n c q m : Nat) (qi mi : Int) (w : World) (h : Own w g xs) (hn : n = xs.length) (hqi : qi = q) (hmi : mi = m) (hq : q < B) (hm : m < B) (hl : xs.length ≤ 1048576) :
    Calls Tryd.prog 73 #[.slice (some ⟨g, 0, none⟩) n c, .int .u32 qi, .int .u32 mi] w (Grown g xs q m w) := by
  subst hn hqi hmi
  exact grow_c g xs c q m w h hq hm hl
theorem cmpI_ge {a b : Nat} (h : b ≤ a) : ∃ z : Int, cmpI a b = z ∧ 0 ≤ z := by
  rcases Nat.lt_or_ge b a with h1 | h1
  · exact ⟨1, cmpI_gt h1, by decide⟩
  · exact ⟨0, cmpI_eq (by omega), by decide⟩
theorem orbit_i {l b : Nat} (hl : l < B) (hb : b < 32) : (0 : Int) ≤ 2 ^ b ∧ (2 : Int) ^ b < 4294967296 ∧ bits BinOp.or IntKind.u32 (l : Int) (2 ^ b) = ((l ||| 2 ^ b : Nat) : Int) := by
  have e : (2 : Int) ^ b = ((2 ^ b : Nat) : Int) := by rw [Int.natCast_pow]; rfl
  have h2 : 2 ^ b < 4294967296 := Nat.pow_lt_pow_right (by decide : 1 < 2) hb
  rw [e, u32_or_nat l (2 ^ b) hl h2]
  exact ⟨Int.natCast_nonneg _, Int.ofNat_lt.2 h2, rfl⟩
theorem Own.zeros' (w : World) (g n : Nat) (t : {t : TypeId // t = 76}) (cs : Array Value) (hc : cs = Array.replicate n (.int .u32 0)) (hg : g = w.heap.size) : Own (w.alloc (.cells cs t.1)) g (List.replicate n 0) := by
  subst hg
  exact Own.zeros w n t cs hc
theorem bit_i {l b : Nat} (h : l < B) : bits BinOp.and IntKind.u32 ((l : Int) / 2 ^ b) 1 = ((l / 2 ^ b % 2 : Nat) : Int) := by
  have e : (l : Int) / 2 ^ b = ((l / 2 ^ b : Nat) : Int) := by rw [Int.natCast_ediv, Int.natCast_pow]; rfl
  have hlt : l / 2 ^ b < 4294967296 := Nat.lt_of_le_of_lt (Nat.div_le_self _ _) h
  have h2 := u32_and_nat (l / 2 ^ b) 1 hlt (by omega)
  rw [e, show (1 : Int) = ((1 : Nat) : Int) from rfl, h2, Nat.and_one_is_mod]
theorem grow_zero {n R b Y c V : Nat} (h : V + B ^ (n + 1) * c = R * 2 + b) (hb : b < 2) (hR : R < Y) (hY : Y ≤ B ^ n) : V = 2 * R + b := by
  have hc : c = 0 := by
    rcases Nat.eq_zero_or_pos c with hz | hz
    · exact hz
    · have h1 := Nat.le_mul_of_pos_right (B ^ (n + 1)) hz
      have h2 : B ^ n * 2 ≤ B ^ (n + 1) := by rw [Nat.pow_succ]; exact Nat.mul_le_mul_left _ (by decide)
      omega
  subst hc
  omega
def DivRel (xs ys : List Nat) (g : Nat) (w : World) (s6 : Value) (wr : World) : Prop :=
  ∃ (j Q R : Nat) (os rs : List Nat), j ≤ xs.length * 32 ∧ s6 = .int .i64 (j - 1 : Int) ∧ DivAt (val xs) (val ys) j Q R ∧ Own wr g os ∧ os.length = xs.length ∧ val os = 2 ^ j * Q ∧ Own wr (g + 1) rs ∧ rs.length = ys.length + 1 ∧ val rs = R ∧ Below w.heap.size w wr
/-- Two new slices: the quotient, the rest. -/
def NewQR (L M Q R : Nat) (w : World) (e : Ending) (w' : World) : Prop :=
  ∃ (os rs : List Nat), e = .returned (.tuple #[.slice (some ⟨w.heap.size, 0, none⟩) os.length os.length, .slice (some ⟨w.heap.size + 1, 0, none⟩) rs.length rs.length]) ∧ Own w' w.heap.size os ∧ Own w' (w.heap.size + 1) rs ∧ val os = Q ∧ val rs = R ∧ os.length ≤ L ∧ rs.length ≤ M ∧ Below w.heap.size w w'



theorem two_i {z : Int} {n : Nat} (h : z = n) : Value.int .u32 z = .int .u32 (n : Int) := by rw [h]
/-- A slice of at most L limbs, with the number V; what was there is as it was. -/
def NewS (L V : Nat) (w : World) (e : Ending) (w' : World) : Prop :=
  ∃ (A : Option Addr) (c : Nat) (os : List Nat), e = .returned (.slice A os.length c) ∧ os.length ≤ c ∧ c ≤ 9223372036854775807 ∧ Lim w' A os ∧ val os = V ∧ os.length ≤ L ∧ Below w.heap.size w w'
def u32s (xs : List Nat) : List Value := xs.map fun (x : Nat) => .int .u32 (x : Int)
theorem lim_of_own {w : World} {b : Nat} {v : Value} {os : List Nat} (ho : okL os) (h : w.ownsRow b 53 1 v os.length (u32s os)) : ∃ A c, v = .slice A os.length c ∧ os.length ≤ c ∧ c ≤ 9223372036854775807 ∧ Lim w A os := by
  rcases h.2 with ⟨rfl, h0⟩ | ⟨g, cap, cur, rfl, hb, hg, hl, hm, hs, ht⟩
  · have : os = [] := List.eq_nil_of_length_eq_zero h0
    subst this
    exact ⟨none, 0, rfl, Nat.le_refl _, by omega, Lim.nil⟩
  · refine ⟨some ⟨g, 0, none⟩, cap, rfl, hl, by unfold maxLen at hm; exact hm, ho, fun h0 => ⟨_, rfl, (Array.getElem?_eq_some_iff.1 hg).1, fun j hj => ?_⟩⟩
    rw [zero_add_addr, cell_of_row w g j cur 53 (0, 0) hg]
    have e : cur[j]? = cur.toList[j]? := by simp
    have e2 : (cur.toList.take (os.length * 1))[j]? = cur.toList[j]? := by rw [List.getElem?_take, if_pos (by omega)]
    rw [e, ← e2, ht]
    unfold u32s
    rw [List.getElem?_map, List.getElem?_eq_getElem hj, lim_in hj]
    rfl
theorem news1 (w : World) (u : Value) (t : TypeId) : ∀ j v, [u][j]? = some v → (w.alloc (.cells #[u] t)).cell? ((⟨w.heap.size, 0, none⟩ : Addr).add j) = some v := fun j v h => by
  rw [zero_add_addr, World.cell?_alloc_at _ _ _ _ rfl]
  simpa using h
theorem one_u32 (z : Int) : ∀ u ∈ [Value.int .u32 z], u.oneCell' = true := fun u h => by
  rw [List.mem_singleton] at h
  subst h
  rfl
def CutRel (n : Nat) (xs : List Nat) (w : World) (s5 s12 : Value) (wr : World) : Prop :=
  ∃ (k : Nat) (os : List Nat), k ≤ xs.length ∧ s12 = .int .i64 k ∧ okL os ∧ os.length = k ∧ val os = val xs % 2 ^ (min n (32 * k)) ∧ wr.ownsRow w.heap.size 53 1 s5 os.length (u32s os) ∧ Below w.heap.size w wr
theorem cut_done {xs : List Nat} (h : okL xs) (n k : Nat) (hk : n ≤ 32 * k ∨ k = xs.length) : val xs % 2 ^ (min n (32 * k)) = val xs % 2 ^ n := by
  by_cases hn : n ≤ 32 * k
  · rw [Nat.min_eq_left hn]
  · have hkx : k = xs.length := by omega
    have h1 : val xs < 2 ^ (32 * k) := by rw [← pow_bits, hkx]; exact val_lt h
    have h2 : (2 : Nat) ^ (32 * k) ≤ 2 ^ n := Nat.pow_le_pow_right (by decide) (by omega)
    rw [Nat.min_eq_right (by omega), Nat.mod_eq_of_lt h1, Nat.mod_eq_of_lt (by omega)]
theorem cut_part {xs os : List Nat} (h : okL xs) {n k b : Nat} (hb : b < 32) (hn : n = 32 * k + b) (ho : os.length = k) (hv : val os = val xs % 2 ^ (min n (32 * k))) :
    val (os ++ [lim xs k % 2 ^ b]) = val xs % 2 ^ (min n (32 * (k + 1))) := by
  rw [val_snoc, ho, hv, Nat.min_eq_right (by omega), Nat.min_eq_left (by omega), hn, ← cut_mod h k b hb, ← pow_bits, ← low_mod h]
theorem cut_full {xs os : List Nat} (h : okL xs) {n k : Nat} (hn : 32 * (k + 1) ≤ n) (ho : os.length = k) (hv : val os = val xs % 2 ^ (min n (32 * k))) :
    val (os ++ [lim xs k]) = val xs % 2 ^ (min n (32 * (k + 1))) := by
  rw [val_snoc, ho, hv, Nat.min_eq_right (by omega), Nat.min_eq_right (by omega), ← pow_bits, ← pow_bits, ← low_mod h, ← low_mod h, low_succ]
theorem CutRel.step {n k x : Nat} {xs os : List Nat} {w wr w1 : World} {v v1 : Value} {o : Obj} (hk : k < xs.length) (hl : os.length = k) (ho : okL os) (hx : x < B) (hv : val (os ++ [x]) = val xs % 2 ^ (min n (32 * (k + 1))))
    (h0 : wr.ownsRow w.heap.size 53 1 v os.length (u32s os)) (h1 : w1.ownsRow w.heap.size 53 1 v1 (os.length + 1) (u32s os ++ [.int .u32 (x : Int)])) (hg : (wr.alloc o).grownBy w1 v.ownBlock) (hB : Below w.heap.size w wr) :
    CutRel n xs w v1 (.int .i64 ((k : Int) + 1)) w1 := by
  refine ⟨k + 1, os ++ [x], hk, by rw [show ((k + 1 : Nat) : Int) = (k : Int) + 1 by omega], ho.append (okL.cons hx okL_nil), by simp [hl], hv, ?_, (hB.alloc hB.size o).grown hg (by rw [World.size_alloc]; have := hB.size; omega) (fun j hj => (h0.lt j hj).1)⟩
  have e : (os ++ [x]).length = os.length + 1 := by simp
  have e2 : u32s (os ++ [x]) = u32s os ++ [.int .u32 (x : Int)] := by simp [u32s]
  rw [e, e2]
  exact h1
theorem mask_i {x b : Nat} (hx : x < B) (hb : b < 32) : ∃ p : Int, (2 : Int) ^ b % 4294967296 = p ∧ bits BinOp.and IntKind.u32 (x : Int) (p - 1) = ((x % 2 ^ b : Nat) : Int) ∧ 1 ≤ p ∧ p ≤ 2147483648 := by
  have e : (2 : Int) ^ b = ((2 ^ b : Nat) : Int) := by rw [Int.natCast_pow]; rfl
  have h2 : 2 ^ b ≤ 2147483648 := Nat.pow_le_pow_right (by decide : 0 < 2) (by omega : b ≤ 31)
  have h1 : 1 ≤ 2 ^ b := Nat.one_le_two_pow
  have e2 : ((2 ^ b : Nat) : Int) - 1 = ((2 ^ b - 1 : Nat) : Int) := by omega
  refine ⟨((2 ^ b : Nat) : Int), ?_, ?_, Int.ofNat_le.2 h1, Int.ofNat_le.2 h2⟩
  · rw [e]
    exact Int.emod_eq_of_lt (Int.natCast_nonneg _) (Int.lt_of_le_of_lt (Int.ofNat_le.2 h2) (by decide))
  · rw [e2, u32_and_nat x (2 ^ b - 1) hx (by omega), Nat.and_two_pow_sub_one_eq_mod]



/-- The number n is returned, its limbs lie in memory; what was there is as it was. -/
def RetBig (n : Int) (A0 : Option Addr) (w : World) (e : Ending) (w' : World) : Prop :=
  ∃ (A : Option Addr) (c : Nat), e = .returned (.agg #[.bool (decide (n < 0)), .slice A (dig n.natAbs).length c]) ∧ (dig n.natAbs).length ≤ c ∧ c ≤ 9223372036854775807 ∧ Lim w' A (dig n.natAbs) ∧ Plus w w' ∧ (A = none ∨ A = A0)
theorem Lim.plus {w : World} {A : Option Addr} {xs : List Nat} (h : Lim w A xs) {w' : World} (hp : Plus w w') : Lim w' A xs := h.below hp.below
theorem Lim.grow {w : World} {A : Option Addr} {xs : List Nat} (h : Lim w A xs) (x : More) : Lim (_root_.Go.Proofs.YtaigkjffglbknaaDoor.plus w x) A xs := h.plus ⟨x, rfl⟩
def _root_.Go.Proofs.YtaigkjffglbknaaDoor.More.add (x y : More) : More := ⟨x.blocks ++ y.blocks, y.draws⟩
theorem plus_add (w : World) (x y : More) : plus (plus w x) y = plus w (x.add y) := plus_plus w x y
/-- The result's own cells are no limbs: they may turn. -/
theorem Lim.res {w : World} {x : More} {A : Option Addr} {xs : List Nat} {b b' : Bool} {a a' : Option Addr} {n n' c c' : Nat} {t : TypeId} (h : Lim (_root_.Go.Proofs.YtaigkjffglbknaaDoor.plus (w.alloc (.cells #[.bool b, .slice a n c] t)) x) A xs) :
    Lim (_root_.Go.Proofs.YtaigkjffglbknaaDoor.plus (w.alloc (.cells #[.bool b', .slice a' n' c'] t)) x) A xs := by
  refine ⟨h.1, fun h0 => ?_⟩
  obtain ⟨ad, rfl, hb, hc⟩ := h.2 h0
  have hsz : ∀ o : Obj, (_root_.Go.Proofs.YtaigkjffglbknaaDoor.plus (w.alloc o) x).heap.size = w.heap.size + 1 + x.blocks.length := fun o => by rw [size_plus, World.size_alloc]
  have hold : ∀ (o : Obj) (k : Nat), k ≠ w.heap.size → (_root_.Go.Proofs.YtaigkjffglbknaaDoor.plus (w.alloc o) x).heap[k]? = if k < w.heap.size then w.heap[k]? else x.blocks[k - (w.heap.size + 1)]? := fun o k hk => by
    by_cases hlt : k < w.heap.size
    · rw [if_pos hlt, heap_plus_lt _ _ (by rw [World.size_alloc]; omega), Below.heap_alloc _ _ _ hlt]
    · rw [if_neg hlt]
      show ((w.alloc o).heap ++ x.blocks.toArray)[k]? = _
      rw [Array.getElem?_append_right (by rw [World.size_alloc]; omega), World.size_alloc]
      simp
  have hne : ad.block ≠ w.heap.size := fun e => by
    have h1 := hc 0 h0
    have h2 : (ad.add 0) = ad := by unfold Addr.add; rw [if_pos rfl]
    rw [h2] at h1
    have h3 : (_root_.Go.Proofs.YtaigkjffglbknaaDoor.plus (w.alloc (.cells #[.bool b, .slice a n c] t)) x).heap[ad.block]? = some (.cells #[.bool b, .slice a n c] t) := by
      rw [e, heap_plus_lt _ _ (by rw [World.size_alloc]; omega)]
      exact heap_alloc_new w _
    unfold World.cell? at h1
    rw [h3] at h1
    simp only at h1
    split at h1
    · cases h1
    · match hoff : ad.off with
      | 0 => rw [hoff] at h1; simp at h1
      | 1 => rw [hoff] at h1; simp at h1
      | k + 2 => rw [hoff] at h1; simp at h1
  refine ⟨ad, rfl, by rw [hsz] at hb ⊢; exact hb, fun j hj => ?_⟩
  rw [← hc j hj]
  apply World.cell?_of_block
  rw [block_of_add, hold _ _ hne, hold _ _ hne]
theorem Lim.res2 {w : World} {x y : More} {A : Option Addr} {xs : List Nat} {b b' : Bool} {a a' : Option Addr} {n n' c c' : Nat} {t : TypeId} (h : Lim (_root_.Go.Proofs.YtaigkjffglbknaaDoor.plus (_root_.Go.Proofs.YtaigkjffglbknaaDoor.plus (w.alloc (.cells #[.bool b, .slice a n c] t)) x) y) A xs) :
    Lim (_root_.Go.Proofs.YtaigkjffglbknaaDoor.plus (_root_.Go.Proofs.YtaigkjffglbknaaDoor.plus (w.alloc (.cells #[.bool b', .slice a' n' c'] t)) x) y) A xs := by
  rw [plus_add] at h ⊢
  exact h.res
theorem Lim.res3 {w : World} {x y z : More} {A : Option Addr} {xs : List Nat} {b b' : Bool} {a a' : Option Addr} {n n' c c' : Nat} {t : TypeId} (h : Lim (_root_.Go.Proofs.YtaigkjffglbknaaDoor.plus (_root_.Go.Proofs.YtaigkjffglbknaaDoor.plus (_root_.Go.Proofs.YtaigkjffglbknaaDoor.plus (w.alloc (.cells #[.bool b, .slice a n c] t)) x) y) z) A xs) :
    Lim (_root_.Go.Proofs.YtaigkjffglbknaaDoor.plus (_root_.Go.Proofs.YtaigkjffglbknaaDoor.plus (_root_.Go.Proofs.YtaigkjffglbknaaDoor.plus (w.alloc (.cells #[.bool b', .slice a' n' c'] t)) x) y) z) A xs := by
  rw [plus_add, plus_add] at h ⊢
  exact h.res
theorem sgn_neg {neg : Bool} {m : Nat} (h : m ≠ 0) : decide (sgn neg m < 0) = neg := by
  cases neg <;> simp [sgn]
  omega
theorem dig_ne {m : Nat} (h : m ≠ 0) : (dig m).length ≠ 0 := fun e => h (dig_inj (by rw [List.eq_nil_of_length_eq_zero e, dig_zero]))

set_option maxHeartbeats 1000000 in
theorem made_c (neg : Bool) (A : Option Addr) (xs : List Nat) (n c : Nat) (w : World) (h : Lim w A xs) (hn : n = xs.length) (hl : xs.length ≤ c) (hc : c ≤ 9223372036854775807) :
    Calls Tryd.prog 74 #[.bool neg, .slice A n c] w (RetBig (sgn neg (val xs)) A w) := by
  subst hn
  obtain ⟨m, hm⟩ : ∃ m, val xs = m := ⟨_, rfl⟩
  have hL := h.dig
  have hd := (dig_head h.1).2
  rw [hm] at hL hd
  by_cases h0 : m = 0
  · have e1 : (dig m).length = 0 := by rw [h0, dig_zero]; rfl
    have HM := Lib.hid hm; clear hm
    go_enter Tryd.func74, Tryd.ntmps74
    go_wp2_with (go_at_call 81; refine (trim_c _ _ _ _ (h.alloc _) hl hc).mono ?_; rintro e w1 ⟨rfl, rfl⟩; rw [HM.out, e1])
    go_returns
    subst h0
    rw [HM.out]
    refine ⟨none, 0, ?_, by rw [sgn_abs]; exact Nat.le_of_eq e1, by omega, by rw [sgn_abs, dig_zero]; exact Lim.nil, (Plus.refl _).alloc _, .inl rfl⟩
    rw [sgn_abs, e1]
    cases neg <;> rfl
  · obtain ⟨L, hlen⟩ : ∃ L, (dig m).length = L := ⟨_, rfl⟩
    have hL0 : ((L : Int) == 0) = false := by rw [← hlen]; exact cast_ne (dig_ne h0)
    have HM := Lib.hid hm; clear hm
    have HL := Lib.hid hlen; clear hlen
    go_enter Tryd.func74, Tryd.ntmps74
    go_wp2_with (go_at_call 81; refine (trim_c _ _ _ _ (h.alloc _) hl hc).mono ?_; rintro e w1 ⟨rfl, rfl⟩; rw [HM.out, HL.out])
    go_returns
    rw [HM.out]
    refine ⟨A, c, ?_, by rw [sgn_abs]; exact Nat.le_trans hd hl, hc, by rw [sgn_abs]; exact hL.alloc _, (Plus.refl _).alloc _, .inr rfl⟩
    rw [sgn_abs, sgn_neg h0, HL.out]

/-- A number or, if it has too many limbs, zero and false. -/
def RetBigOk (n : Int) (w : World) (e : Ending) (w' : World) : Prop :=
  ∃ (A : Option Addr) (c : Nat) (m : Int) (ok : Bool), e = .returned (.tuple #[.agg #[.bool (decide (m < 0)), .slice A (dig m.natAbs).length c], .bool ok]) ∧ ok = decide (n.natAbs < B ^ 8) ∧ m = (if n.natAbs < B ^ 8 then n else 0) ∧ (dig m.natAbs).length ≤ c ∧ c ≤ 9223372036854775807 ∧ Lim w' A (dig m.natAbs) ∧ Plus w w'
theorem dig_long {m : Nat} : (dig m).length ≤ 8 ↔ m < B ^ 8 := ⟨lt_of_dig_len, dig_len_le⟩



/-- A number and an error. -/
theorem ty_res {w : World} {x y : More} {o1 o2 : Obj} {g : Nat} {cur : Array Value} {e : TypeId} {z : Nat × Nat} (h : (_root_.Go.Proofs.YtaigkjffglbknaaDoor.plus (w.alloc o1) x).heap[g]? = some (.cells cur e z)) (hg : w.heap.size < g) :
    (_root_.Go.Proofs.YtaigkjffglbknaaDoor.plus (_root_.Go.Proofs.YtaigkjffglbknaaDoor.plus (w.alloc o2) x) y).heap[g]? = some (.cells cur e z) := by
  have hlt := (Array.getElem?_eq_some_iff.1 h).1
  rw [size_plus, World.size_alloc] at hlt
  rw [heap_plus_lt _ _ (by rw [size_plus, World.size_alloc]; exact hlt), ← h]
  simp only [_root_.Go.Proofs.YtaigkjffglbknaaDoor.plus]
  rw [Array.getElem?_append_right (by rw [World.size_alloc]; omega), Array.getElem?_append_right (by rw [World.size_alloc]; omega), World.size_alloc, World.size_alloc]
def RetBigX (n er : Int) (w : World) (e : Ending) (w' : World) : Prop :=
  ∃ (A : Option Addr) (c : Nat), e = .returned (.tuple #[.agg #[.bool (decide (n < 0)), .slice A (dig n.natAbs).length c], .int .i64 er]) ∧ (dig n.natAbs).length ≤ c ∧ c ≤ 9223372036854775807 ∧ Lim w' A (dig n.natAbs) ∧ Plus w w' ∧ Ty w' A (dig n.natAbs).length 76
theorem RetBigX.zero {er : Int} {w w' : World} (hp : Plus w w') : RetBigX 0 er w (.returned (.tuple #[.agg #[.bool false, .slice none 0 0], .int .i64 er])) w' := by
  refine ⟨none, 0, by rw [show (0 : Int).natAbs = 0 from rfl, dig_zero]; rfl, by rw [show (0 : Int).natAbs = 0 from rfl, dig_zero]; exact Nat.le_refl _, by omega, by rw [show (0 : Int).natAbs = 0 from rfl, dig_zero]; exact Lim.nil, hp, by rw [show (0 : Int).natAbs = 0 from rfl, dig_zero]; exact fun h => absurd h (by simp)⟩
theorem BB : B * B = 18446744073709551616 := rfl
theorem sgn_tr (m : Nat) : sgn true m = -(m : Int) := rfl
theorem sgn_fa (m : Nat) : sgn false m = (m : Int) := rfl

theorem emod_pow (a : Int) (k : Nat) : a % 2 ^ k = if a < 0 ∧ a.natAbs % 2 ^ k ≠ 0 then ((2 ^ k - a.natAbs % 2 ^ k : Nat) : Int) else ((a.natAbs % 2 ^ k : Nat) : Int) := by
  have hp : 0 < 2 ^ k := Nat.two_pow_pos k
  have e : (2 : Int) ^ k = ((2 ^ k : Nat) : Int) := by rw [Int.natCast_pow]; rfl
  rw [e]
  generalize 2 ^ k = p at hp ⊢
  have hm := Nat.mod_lt a.natAbs hp
  have hd := Nat.mod_add_div a.natAbs p
  generalize a.natAbs % p = r at hm hd ⊢
  generalize a.natAbs / p = q at hd
  have hpq : ((p * q : Nat) : Int) = (p : Int) * (q : Int) := Int.natCast_mul p q
  by_cases h0 : a < 0 ∧ r ≠ 0
  · rw [if_pos h0]
    have ea : a = ((p - r : Nat) : Int) + (p : Int) * (-(q : Int) - 1) := by
      rw [Int.mul_sub, Int.mul_neg, ← hpq]
      omega
    rw [ea, Int.add_mul_emod_self_left]
    exact Int.emod_eq_of_lt (Int.natCast_nonneg _) (by omega)
  · rw [if_neg h0]
    by_cases h1 : a < 0
    · have hr : r = 0 := by
        rcases Nat.eq_zero_or_pos r with h | h
        · exact h
        · exact absurd ⟨h1, by omega⟩ h0
      subst hr
      have ea : a = 0 + (p : Int) * (-(q : Int)) := by
        rw [Int.mul_neg, ← hpq]
        omega
      rw [ea, Int.add_mul_emod_self_left]
      rfl
    · have ea : a = (r : Int) + (p : Int) * (q : Int) := by
        rw [← hpq]
        omega
      rw [ea, Int.add_mul_emod_self_left]
      exact Int.emod_eq_of_lt (Int.natCast_nonneg _) (by omega)

theorem ne_i {a : Nat} : ((a == 0) = true → a = 0) ∧ ((a == 0) = false → a ≠ 0) := ⟨fun h => by simpa using h, fun h => by simpa using h⟩



theorem toList_data (s : ByteArray) : s.toList = s.data.toList := ByteArray.toList_eq s
theorem byte_at (s : ByteArray) (k : Nat) (h : k < s.size) : s.data.toList[k]? = some s[k] := by
  rw [List.getElem?_eq_getElem (by simpa using h)]
  rfl
theorem all_take {l : List UInt8} {k : Nat} (h : k < l.length) (ha : (l.take k).all isD = true) (hd : isD l[k] = true) : (l.take (k + 1)).all isD = true := by
  rw [List.take_succ_eq_append_getElem h, List.all_append, ha]
  simp [hd]
theorem all_not {l : List UInt8} {k : Nat} (h : k < l.length) (hd : isD l[k] = false) : l.all isD = false := by
  rw [List.all_eq_false]
  exact ⟨_, List.getElem_mem h, by simp [hd]⟩

set_option maxRecDepth 100000 in
set_option maxHeartbeats 4000000 in
theorem isCount_c (s : ByteArray) (w : World) (hs : s.size ≤ 9223372036854775807) :
    Calls Tryd.prog 72 #[.string s] w fun e w' => e = .returned (.bool (isCnt s.data.toList)) ∧ w = w' := by
  have etl := toList_data s
  by_cases h0 : s.toList = []
  · have hc : isCnt s.data.toList = false := by rw [← etl, h0]; rfl
    have HC := Lib.hid hc
    clear hc etl
    go_enter Tryd.func72, Tryd.ntmps72
    go_wp2
    go_ret
    exact ⟨by rw [HC.out]; rfl, rfl⟩
  · have hz : 0 < s.size := by
      rcases Nat.eq_zero_or_pos s.size with h | h
      · exact absurd (by rw [etl]; exact List.eq_nil_of_length_eq_zero (by simpa using h)) h0
      · exact h
    have he : s.toList.isEmpty = false := by
      cases hl : s.toList with
      | nil => exact absurd hl h0
      | cons _ _ => rfl
    have hhead : s.data.toList.head? = some s[0] := by
      rw [List.head?_eq_getElem?, byte_at s 0 hz]
    by_cases hbad : s[0].toNat = 48 ∧ (s.toList == [48]) = false
    · obtain ⟨e1, e2⟩ := hbad
      have hc : isCnt s.data.toList = false := by
        have e3 : s[0] = 48 := UInt8.toNat_inj.1 e1
        unfold isCnt
        rw [hhead, e3, ← etl, e2]
        simp
      have HC := Lib.hid hc
      have b1 : ((s[0].toNat : Int) == 48) = true := by simp; omega
      have b2 : (s.toList != [48]) = true := by rw [bne, e2]; rfl
      clear hc etl hhead e1
      go_enter Tryd.func72, Tryd.ntmps72
      go_wp2
      go_ret
      exact ⟨by rw [HC.out]; rfl, rfl⟩
    · have hpre : (s.data.toList.head? != some 48 || s.data.toList == [48]) = true := by
        rw [hhead, ← etl]
        by_cases e2 : (s.toList == [48]) = true
        · rw [e2]; simp
        · have e1 : s[0].toNat ≠ 48 := fun e => hbad ⟨e, by simpa using e2⟩
          have : s[0] ≠ 48 := fun e => e1 (by rw [e]; rfl)
          simp [this]
      have hne : s.data.toList.isEmpty = false := by rw [← etl]; exact he
      have HPRE := Lib.hid hpre
      have HNE := Lib.hid hne
      have hb : ((s[0].toNat : Int) == 48) = false ∨ ((s[0].toNat : Int) == 48) = true ∧ (s.toList == [48]) = true := by
        by_cases e1 : s[0].toNat = 48
        · refine .inr ⟨by simp; omega, ?_⟩
          cases h : (s.toList == [48])
          · exact absurd ⟨e1, h⟩ hbad
          · rfl
        · exact .inl (by simp; omega)
      clear hpre hne hhead hbad etl
      rcases hb with b1 | ⟨b1, b2⟩
      all_goals
        go_enter Tryd.func72, Tryd.ntmps72
        go_wp2
        go_loop [17] (fun i => ∃ k : Nat, k ≤ s.size ∧ i = .int .i64 k ∧ Hid ((s.data.toList.take k).all isD = true)) (fun i => ((s.size : Int) - intOf i).toNat)
        case atStart => exact ⟨0, by omega, rfl, Lib.hid rfl⟩
        case round =>
          obtain ⟨k, hk, rfl, hA⟩ := hrel
          by_cases hlt : k < s.size
          · have hkl : k < s.data.toList.length := by simpa using hlt
            have hx : s.data.toList[k] = s[k] := rfl
            by_cases d1 : s[k].toNat < 48
            · have HC : Hid (isCnt s.data.toList = false) := Lib.hid (by unfold isCnt; rw [all_not hkl (by rw [hx]; simp [isD]; omega)]; simp)
              clear hx
              have t1 : decide ((s[k].toNat : Int) < 48) = true := by simp; omega
              go_wp2
              go_ret
              exact ⟨by rw [HC.out]; rfl, rfl⟩
            · by_cases d2 : 57 < s[k].toNat
              · have HC : Hid (isCnt s.data.toList = false) := Lib.hid (by unfold isCnt; rw [all_not hkl (by rw [hx]; simp [isD]; omega)]; simp)
                clear hx
                have t1 : decide ((s[k].toNat : Int) < 48) = false := by simp; omega
                have t2 : decide (57 < (s[k].toNat : Int)) = true := by simp; omega
                go_wp2
                go_ret
                exact ⟨by rw [HC.out]; rfl, rfl⟩
              · have HS : Hid ((s.data.toList.take (k + 1)).all isD = true) := Lib.hid (all_take hkl hA.out (by rw [hx]; simp [isD]; omega))
                clear hx
                have t1 : decide ((s[k].toNat : Int) < 48) = false := by simp; omega
                have t2 : decide (57 < (s[k].toNat : Int)) = false := by simp; omega
                go_wp2
                go_round
                case rel => exact ⟨k + 1, hlt, by rw [show ((k + 1 : Nat) : Int) = (k : Int) + 1 by omega], HS⟩
                case measure => simp [intOf]; omega
          · obtain rfl : k = s.size := by omega
            have HC : Hid (isCnt s.data.toList = true) := Lib.hid (by
              have e := hA.out
              rw [List.take_of_length_le (by simp)] at e
              unfold isCnt
              rw [e, HPRE.out, HNE.out]
              rfl)
            go_wp2
            go_ret
            exact ⟨by rw [HC.out]; rfl, rfl⟩



theorem num_take {l : List UInt8} {k : Nat} (h : k < l.length) : num (l.take (k + 1)) = 10 * num (l.take k) + (l[k].toNat - 48) := by
  rw [List.take_succ_eq_append_getElem h, num_snoc]
theorem num_take_le (l : List UInt8) (k : Nat) : num (l.take k) ≤ num l := by
  have h := num_ge (l.take k) (l.drop k)
  rw [List.take_append_drop] at h
  exact h
theorem isD_of {l : List UInt8} (h : l.all isD = true) {k : Nat} (hk : k < l.length) : 48 ≤ l[k].toNat ∧ l[k].toNat ≤ 57 := by
  have := List.all_eq_true.1 h _ (List.getElem_mem hk)
  simpa [isD] using this
theorem cnt_digits {l : List UInt8} (h : isCnt l = true) : l.all isD = true := by
  unfold isCnt at h
  simp only [Bool.and_eq_true] at h
  exact h.2
def ParRel (ds : List UInt8) (g : Nat) (w : World) (s27 : Value) (wr : World) : Prop :=
  ∃ (k : Nat) (os : List Nat), k ≤ ds.length ∧ s27 = .int .i64 k ∧ Own wr g os ∧ os.length = 8 ∧ val os = num (ds.take k) ∧ Below (w.heap.size + 1) (w.alloc (.cells #[.bool false, .slice none 0 0] 34)) wr

set_option maxRecDepth 100000 in
set_option maxHeartbeats 8000000 in
theorem parse_h (s D : ByteArray) (neg : Bool) (w : World) (hD : Hid (Lib.hasPrefix s.data.toList [45] = neg ∧ (Lib.trimPrefix s.data.toList [45]) = D.data.toList)) (hDs : D.size ≤ 9223372036854775807)
    (hcnt : Hid (isCnt D.data.toList = true)) (hz : Hid (neg = true → (D.toList == [48]) = false)) (R er : Int) (hlong : Hid (B ^ 8 ≤ num D.data.toList → R = 0 ∧ er = 3)) (hok : Hid (num D.data.toList < B ^ 8 → R = sgn neg (num D.data.toList) ∧ er = 0)) :
    Calls Tryd.prog 63 #[.string s] w (RetBigX R er w) := by
  have hmk : ∀ w, (Instr.makeSlice 32 (.int .i64 8) (.int .i64 8)).run Tryd.prog w = .ok (.slice (some ⟨w.heap.size, 0, none⟩) 8 8) (w.alloc (.cells #[.int .u32 0, .int .u32 0, .int .u32 0, .int .u32 0, .int .u32 0, .int .u32 0, .int .u32 0, .int .u32 0] 76)) := fun _ => by kernel_rfl
  have hcp : ∀ w : World, Calls Tryd.prog 71 #[.string s, .string ⟨#[45]⟩] w fun e w' => e = .returned (.tuple #[.string D, .bool neg]) ∧ w = w' := fun w => by
    refine (Tryd.strings_CutPrefix s ⟨#[45]⟩ w).mono ?_
    rintro e w1 ⟨rfl, rfl⟩
    have e1 : (⟨#[45]⟩ : ByteArray).data.toList = [45] := rfl
    rw [e1, hD.out.1, hD.out.2]
    exact ⟨rfl, rfl⟩
  have HCP := Lib.hid hcp
  clear hcp
  cases neg
  all_goals
    first | have h48 := hz.out rfl | skip
    go_enter Tryd.func63, Tryd.ntmps63
    go_wp2_with (first | (go_at_call 71; (with_reducible refine (HCP.out _).mono ?_); rintro e w1 ⟨rfl, rfl⟩) | (go_at_call 72; (with_reducible refine (isCount_c D _ hDs).mono ?_); rintro e w1 ⟨rfl, rfl⟩; rw [hcnt.out]))
    clear hmk
    first | clear h48 | skip
    have HST : Hid (Own ((w.alloc (.cells #[.bool false, .slice none 0 0] 34)).alloc (.cells #[.int .u32 0, .int .u32 0, .int .u32 0, .int .u32 0, .int .u32 0, .int .u32 0, .int .u32 0, .int .u32 0] 76)) (w.heap.size + 1) (List.replicate 8 0)) := Lib.hid (Own.zeros' _ _ 8 ⟨76, rfl⟩ _ rfl (by rw [World.size_alloc]))
    go_loopw [27] (ParRel D.data.toList (w.heap.size + 1) w) (fun s27 _ => ((D.size : Int) - intOf s27).toNat)
    case atStart => exact ⟨0, _, by omega, rfl, HST.out, by simp, by rw [val_zeros]; rfl, (Below.refl _ _).alloc (by rw [World.size_alloc]; omega) _⟩
    case round =>
      obtain ⟨k, os, hk, rfl, hO, hol, hov, hB⟩ := hrel
      have hkD : k ≤ D.size := by simpa using hk
      obtain ⟨x, rfl⟩ := Plus.of_below (w := w.alloc (.cells #[.bool false, .slice none 0 0] 34)) (by rw [World.size_alloc]; exact hB)
      have HO := Lib.hid hO
      have HOL := Lib.hid hol
      have HOV := Lib.hid hov
      have HBB := Lib.hid hB
      clear hO hol hov hB
      by_cases hlt : k < D.size
      · have hkl : k < D.data.toList.length := by simpa using hlt
        obtain ⟨c1, c2⟩ := isD_of (cnt_digits hcnt.out) hkl
        have HNT := Lib.hid (num_take hkl)
        have hx : D.data.toList[k] = D[k] := rfl
        rw [hx] at c1 c2
        have HX := Lib.hid hx
        clear hx
        have c1' : (48 : Int) ≤ (D[k].toNat : Int) := by omega
        have c2' : (D[k].toNat : Int) ≤ 57 := by omega
        go_wp2_with fail
        refine (grow_i (w.heap.size + 1) os 8 8 10 (D[k].toNat - 48) _ _ _ HO.out HOL.out.symm rfl (by omega) (by decide) (by have := B_eq; omega) (by have := HOL.out; omega)).mono ?_
        rintro e w1 ⟨os2, cy, rfl, hO2, hv2, hl2, hc2, hg2⟩
        have hB2 := HBB.out.grown hg2 (by rw [size_plus, World.size_alloc]; omega) (fun j e => by injection e with e; omega)
        obtain ⟨x2, rfl⟩ := Plus.of_below (w := w.alloc (.cells #[.bool false, .slice none 0 0] 34)) (by rw [World.size_alloc]; exact hB2)
        have hv3 : val os2 + B ^ 8 * cy = num (D.data.toList.take (k + 1)) := by
          rw [HOL.out, HOV.out] at hv2
          rw [HNT.out, HX.out, hv2, Nat.mul_comm 10]
        have HO2 := Lib.hid hO2
        have HL2 : Hid (os2.length = 8) := Lib.hid (by rw [hl2, HOL.out])
        have HB2 := Lib.hid hB2
        clear hO2 hl2 hg2 hB2 hv2 hc2
        by_cases hcy : cy = 0
        · have HV3 : Hid (val os2 = num (D.data.toList.take (k + 1))) := Lib.hid (by rw [← hv3, hcy]; simp)
          have hb0 : ((cy : Int) != 0) = false := by simp [hcy]
          clear hv3 hcy
          go_wp2_with fail
          go_roundw
          case rel => exact ⟨k + 1, os2, hkl, by rw [show ((k + 1 : Nat) : Int) = (k : Int) + 1 by omega], HO2.out, HL2.out, HV3.out, HB2.out⟩
          case measure => simp [intOf]; omega
        · have hlong2 : B ^ 8 ≤ num D.data.toList := by
            have h1 := num_take_le D.data.toList (k + 1)
            have h2 : B ^ 8 ≤ B ^ 8 * cy := Nat.le_mul_of_pos_right _ (by omega)
            omega
          obtain ⟨hR0, hE0⟩ := hlong.out hlong2
          have HR0 := Lib.hid hR0
          have HE0 := Lib.hid hE0
          have hb0 : ((cy : Int) != 0) = true := by simp [hcy]
          clear hv3 hcy hlong2 hR0 hE0
          go_wp2_with fail
          go_returns
          rw [HR0.out, HE0.out]
          exact RetBigX.zero (by repeat' (first | exact Plus.refl _ | refine Plus.alloc ?_ _ | refine Plus.plus ?_ _ | refine Plus.drew ?_ | refine Plus.drewN ?_ _))
      · obtain rfl : k = D.size := by omega
        have hfull : num (D.data.toList.take D.size) = num D.data.toList := by rw [List.take_of_length_le (by simp)]
        have hlt8 : num D.data.toList < B ^ 8 := by
          rw [← hfull, ← HOV.out, ← HOL.out]
          exact val_lt HO.out.1
        obtain ⟨hR0, hE0⟩ := hok.out hlt8
        have HR0 := Lib.hid hR0
        have HE0 := Lib.hid hE0
        have HV : Hid (val os = num D.data.toList) := Lib.hid (by rw [HOV.out, hfull])
        clear hfull hlt8 hR0 hE0
        go_wp2_with fail
        refine (made_c _ _ os _ _ _ HO.out.toLim HOL.out.symm (by rw [HOL.out]; exact Nat.le_refl _) (by omega)).mono ?_
        rintro e w3 ⟨A3, c3, rfl, r1, r2, r3, ⟨x5, rfl⟩, hA3⟩
        have HA3 := Lib.hid hA3
        clear hA3
        rw [HV.out, ← HR0.out] at r1 r3 ⊢
        have R1 := Lib.hid r1
        have R3 := Lib.hid r3
        clear r1 r3
        go_wp2_with fail
        go_returns
        rw [HE0.out]
        refine ⟨A3, c3, rfl, R1.out, r2, R3.out.res2, ?_, fun _ a ha => ?_⟩
        · repeat' (first | exact Plus.refl _ | refine Plus.alloc ?_ _ | refine Plus.plus ?_ _ | refine Plus.drew ?_ | refine Plus.drewN ?_ _)
        · rcases HA3.out with e | e
          · rw [e] at ha; cases ha
          · rw [e] at ha
            injection ha with ha
            subst ha
            obtain ⟨_, cur, ⟨e, rfl⟩, hh, _⟩ := HO.out
            exact ⟨cur, (0, 0), ty_res hh (Nat.lt_succ_self _)⟩

set_option maxRecDepth 100000 in
set_option maxHeartbeats 8000000 in
theorem parse_no (s D : ByteArray) (neg : Bool) (w : World) (hD : Hid (Lib.hasPrefix s.data.toList [45] = neg ∧ (Lib.trimPrefix s.data.toList [45]) = D.data.toList)) (hDs : D.size ≤ 9223372036854775807)
    (hbad : isCnt D.data.toList = false ∨ isCnt D.data.toList = true ∧ neg = true ∧ (D.toList == [48]) = true) :
    Calls Tryd.prog 63 #[.string s] w (RetBigX 0 2 w) := by
  have hcp : ∀ w : World, Calls Tryd.prog 71 #[.string s, .string ⟨#[45]⟩] w fun e w' => e = .returned (.tuple #[.string D, .bool neg]) ∧ w = w' := fun w => by
    refine (Tryd.strings_CutPrefix s ⟨#[45]⟩ w).mono ?_
    rintro e w1 ⟨rfl, rfl⟩
    have e1 : (⟨#[45]⟩ : ByteArray).data.toList = [45] := rfl
    rw [e1, hD.out.1, hD.out.2]
    exact ⟨rfl, rfl⟩
  have HCP := Lib.hid hcp
  clear hcp
  rcases hbad with hc | ⟨hc, rfl, h48⟩
  all_goals
    have HC := Lib.hid hc
    clear hc
    go_enter Tryd.func63, Tryd.ntmps63
    go_wp2_with (first | (go_at_call 71; (with_reducible refine (HCP.out _).mono ?_); rintro e w1 ⟨rfl, rfl⟩) | (go_at_call 72; (with_reducible refine (isCount_c D _ hDs).mono ?_); rintro e w1 ⟨rfl, rfl⟩; rw [HC.out]))
    go_returns
    exact RetBigX.zero (by repeat' (first | exact Plus.refl _ | refine Plus.alloc ?_ _ | refine Plus.plus ?_ _ | refine Plus.drew ?_ | refine Plus.drewN ?_ _))

/-- The integer that a text is read as, and the error. -/
def parI (l : List UInt8) : Int := match rd l with | .is n => n | _ => 0
def parE (l : List UInt8) : Int := match rd l with | .form => 2 | .long => 3 | .is _ => 0
theorem parse_c (s : ByteArray) (w : World) (hs : s.size ≤ 9223372036854775807) :
    Calls Tryd.prog 63 #[.string s] w (RetBigX (parI s.data.toList) (parE s.data.toList) w) := by
  obtain ⟨neg, hneg⟩ : ∃ b, Lib.hasPrefix s.data.toList [45] = b := ⟨_, rfl⟩
  obtain ⟨d, hd⟩ : ∃ d, Lib.trimPrefix s.data.toList [45] = d := ⟨_, rfl⟩
  have hdl : d.length ≤ s.data.toList.length := by
    rw [← hd]
    unfold Lib.trimPrefix
    split
    · rw [List.length_drop]; omega
    · exact Nat.le_refl _
  have hrd : rd s.data.toList = if isCnt d = false ∨ (neg = true ∧ d = [48]) then .form else if B ^ 8 ≤ num d then .long else .is (sgn neg (num d)) := by
    have e1 : (s.data.toList.head? == some 45) = neg := by
      rw [← hneg]
      unfold Lib.hasPrefix
      cases s.data.toList with
      | nil => rfl
      | cons c l => simp only [List.head?_cons, List.isPrefixOf, Bool.and_true]; rw [Bool.eq_iff_iff]; simp; exact eq_comm
    have e2 : (if neg then s.data.toList.tail else s.data.toList) = d := by
      rw [← hd]
      unfold Lib.trimPrefix
      rw [hneg]
      cases neg
      · rfl
      · simp
    unfold rd
    simp only [e1, e2]
    rfl
  have hD : Hid (Lib.hasPrefix s.data.toList [45] = neg ∧ Lib.trimPrefix s.data.toList [45] = (⟨d.toArray⟩ : ByteArray).data.toList) := Lib.hid ⟨hneg, by rw [hd]⟩
  have hDs : (⟨d.toArray⟩ : ByteArray).size ≤ 9223372036854775807 := by
    have : (⟨d.toArray⟩ : ByteArray).size = d.length := by show d.toArray.size = _; simp
    have h2 : s.data.toList.length = s.size := by simp
    omega
  have etl : (⟨d.toArray⟩ : ByteArray).toList = d := toList_data _
  have edl : (⟨d.toArray⟩ : ByteArray).data.toList = d := rfl
  by_cases hbad : isCnt d = false ∨ (neg = true ∧ d = [48])
  · have e1 : parI s.data.toList = 0 := by unfold parI; rw [hrd, if_pos hbad]
    have e2 : parE s.data.toList = 2 := by unfold parE; rw [hrd, if_pos hbad]
    rw [e1, e2]
    refine parse_no s ⟨d.toArray⟩ neg w hD hDs ?_
    rw [edl, etl]
    cases hc : isCnt d
    · exact .inl rfl
    · rcases hbad with h | ⟨h1, h2⟩
      · rw [hc] at h; cases h
      · exact .inr ⟨rfl, h1, by rw [h2]; rfl⟩
  · refine parse_h s ⟨d.toArray⟩ neg w hD hDs (Lib.hid ?_) (Lib.hid ?_) _ _ (Lib.hid ?_) (Lib.hid ?_)
    · rw [edl]
      cases hc : isCnt d
      · exact absurd (.inl hc) hbad
      · rfl
    · rw [etl]
      intro hn
      cases hq : (d == [48])
      · rfl
      · exact absurd (.inr ⟨hn, by simpa using hq⟩) hbad
    · rw [edl]
      intro h
      unfold parI parE
      rw [hrd, if_neg hbad, if_pos h]
      exact ⟨rfl, rfl⟩
    · rw [edl]
      intro h
      unfold parI parE
      rw [hrd, if_neg hbad, if_neg (by omega)]
      exact ⟨rfl, rfl⟩

end Go.Proofs.YtaigkjffglbknaaDoor.Bg
