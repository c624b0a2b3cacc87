/- Rows of bits in memory; rowFor, add, has, join. -/
import Derived.WalkKit
import Derived.WalkSpells
import Derived.WalkLawsBesides
import Derived.Handy
import Derived.Deep.RegionHeld3
import Derived.Deep.DeepCutAuto
import Derived.Deep.QuietTactic
import Derived.BigQuiet
import Derived.Lib.Hide
import Derived.KernelRfl
import Derived.WalkMore
import Derived.Deep.LoopGhost
import Derived.IntWalk
import Derived.RangeFuncBox
import Derived.Laws.OwnMore
import Derived.Maps.AppendAt
import Derived.Test.YtmfdlcicbiincaaDoorProg
import Derived.Test.YtmfdlcicbiincaaDoorK1
import Derived.Test.YtmfdlcicbiincaaDoorW
namespace Go.Proofs.YtmfdlcicbiincaaDoor
open Go.RowKit


/-- Block h: K words with the set s. -/
def Rw (w : World) (h K : Nat) (s : Nat → Bool) : Prop := ∃ cur, w.heap[h]? = some (.cells cur 95 (0, 0)) ∧ cur.size = K ∧ ∀ i, i < K → cur[i]? = some (.int .u64 (W64 s i : Nat))
section
variable {w w' : World} {h K : Nat} {s t : Nat → Bool}
theorem Rw.lt (H : Rw w h K s) : h < w.heap.size := by
  obtain ⟨cur, hh, _⟩ := H
  exact (Array.getElem?_eq_some_iff.1 hh).1
theorem Rw.cell (H : Rw w h K s) {i : Nat} (hi : i < K) : w.cell? ⟨h, i, none⟩ = some (.int .u64 (W64 s i : Nat)) := by
  obtain ⟨cur, hh, _, hc⟩ := H
  rw [cell_of_row w h i cur 95 (0, 0) hh]
  exact hc i hi
theorem Rw.frozen (H : Rw w h K s) (i : Nat) : w.frozen? ⟨h, i, none⟩ = false := by
  obtain ⟨cur, hh, _⟩ := H
  simp [World.frozen?, hh]
theorem Rw.block (H : Rw w h K s) (hk : w'.heap[h]? = w.heap[h]?) : Rw w' h K s := by
  obtain ⟨cur, hh, hc⟩ := H
  exact ⟨cur, hk.trans hh, hc⟩
theorem Rw.below {B : Nat} (H : Rw w h K s) (hb : Below B w w') (hg : h < B) : Rw w' h K s := H.block (hb.block h hg)
theorem Rw.plus (H : Rw w h K s) (hp : Plus w w') : Rw w' h K s := H.below hp.below H.lt
theorem Rw.alloc (H : Rw w h K s) (o : Obj) : Rw (w.alloc o) h K s := H.block (Below.heap_alloc _ _ _ H.lt)
theorem Rw.ext (H : Rw w h K s) (he : ∀ j, j < 64 * K → s j = t j) : Rw w h K t := by
  obtain ⟨cur, hh, hs, hc⟩ := H
  refine ⟨cur, hh, hs, fun i hi => ?_⟩
  rw [hc i hi, W64_ext fun j hj => he _ (by omega)]
theorem Rw.other (H : Rw w h K s) {g i : Nat} {v : Value} (hg : g ≠ h) : Rw (w.setCell ⟨g, i, none⟩ v) h K s := H.block (by simp [World.setCell, Array.getElem?_modify, hg])
/-- A word stored. -/
theorem Rw.set (H : Rw w h K s) {i : Nat} {v : Nat} (hv : v = W64 t i) (he : ∀ j, j ≠ i → W64 t j = W64 s j) : Rw (w.setCell ⟨h, i, none⟩ (.int .u64 (v : Nat))) h K t := by
  obtain ⟨cur, hh, hs, hc⟩ := H
  subst hv
  refine ⟨cur.setIfInBounds i (.int .u64 (W64 t i : Nat)), ?_, by simp [hs], fun j hj => ?_⟩
  · simp [World.setCell, Array.getElem?_modify, hh]
  · rw [Array.getElem?_setIfInBounds]
    by_cases hij : i = j
    · subst hij
      rw [if_pos rfl, if_pos (by omega)]
    · rw [if_neg hij, hc j hj, he j (fun e => hij e.symm)]
theorem Rw.new (w : World) (K : Nat) (cs : Array Value) (hc : cs = Array.replicate K (.int .u64 0)) : Rw (w.alloc (.cells cs 95)) w.heap.size K (fun _ => false) := by
  subst hc
  refine ⟨_, heap_alloc_new w _, by simp, fun j hj => ?_⟩
  rw [Array.getElem?_replicate, if_pos hj, W64_none]
  rfl
end
theorem grown_set (w : World) (b i : Nat) (v : Value) : w.grownBy (w.setCell ⟨b, i, none⟩ v) (some b) := ⟨rfl, rfl, rfl, by rw [World.size_setCell]; exact Nat.le_refl _, fun k _ hk => Below.heap_setCell _ _ _ _ (fun e => hk (by subst e; rfl))⟩
theorem cell_alloc_end (w : World) (cs : Array Value) (e : TypeId) (i : Nat) : (w.alloc (.cells cs e)).cell? ⟨w.heap.size, i, none⟩ = cs[i]? := by
  rw [cell_of_row (w.alloc (.cells cs e)) w.heap.size i cs e (0, 0) (World.alloc_heap_new w _)]

theorem infoU64 : (Tryd.prog.info? 95).map (fun i => (i.zero, i.size, i.bytes)) = some (some (.int .u64 0), 1, 8) := by kernel_rfl
theorem made64 (K : Nat) : madeCells #[.int .u64 0] K = Array.replicate K (.int .u64 0) := by
  apply Array.toList_inj.1
  rw [toList_madeCells_one]
  simp
set_option maxRecDepth 100000 in
set_option maxHeartbeats 4000000 in
theorem rowFor_c {n K : Nat} (w : World) (hK : K = (n + 63) / 64) (hn : n ≤ 1000000) : Calls Tryd.prog 71 #[.int .i64 n] w fun e w' => e = .returned (.slice (some ⟨w.heap.size, 0, none⟩) K K) ∧ w' = w.alloc (.cells (Array.replicate K (.int .u64 0)) 95) := by
  have e1 : ((n : Int) + 64 - 1) / 64 = (K : Nat) := by omega
  have e2 : ((n : Int) + 63) / 64 = (K : Nat) := by omega
  have hmk := run_make_row' (P := Tryd.prog) 72 95 (.int .u64 0) 8 Tryd.underlying72 infoU64 rfl .i64 .i64 K (by omega) (by omega)
  have hm1 := hmk
  rw [← e1] at hm1
  have hm2 := hmk
  rw [← e2] at hm2
  clear e1 e2
  go_enter Tryd.func71, Tryd.ntmps71
  go_wp2
  go_returns
  subst hK
  exact ⟨rfl, by first | rfl | rw [made64]⟩

set_option maxRecDepth 100000 in
set_option maxHeartbeats 4000000 in
theorem add_x {s : Nat → Bool} {b i m K h c : Nat} (w : World) (H : Rw w h K s) (hbi : b / 64 = i) (hbm : b % 64 = m) (hb : b < 64 * K) (hK : K ≤ 100000) (_ : K ≤ c) : Calls Tryd.prog 48 #[.slice (some ⟨h, 0, none⟩) K c, .int .i64 b] w fun e w' => (∃ v, e = .returned v) ∧ w' = (w.drew.setCell ⟨h, i, none⟩ (.int .u64 (W64 (wth s b) i : Nat))) := by
  have hlt := H.lt
  have hi : i < K := by omega
  have hc1 := H.cell hi
  have hf := H.frozen i
  have hw := W64_lt s i
  have hm : m < 64 := by omega
  have hp : 2 ^ m < 18446744073709551616 := Nat.pow_lt_pow_right (by omega) hm
  have hor := bits_or_u64_nat (W64 s i) (2 ^ m) hw hp
  have hwt := W64_wth s b
  rw [hbi, hbm] at hwt
  rw [hwt] at hor
  have e1 : ((b : Int)) / 64 = (i : Int) := by omega
  have e2 : ((b : Int)) % 64 = (m : Int) := by omega
  clear hwt
  go_enter Tryd.func48, Tryd.ntmps48
  go_region
  have e3 : bits BinOp.or IntKind.u64 (↑(W64 s i)) (IntKind.u64.wrap (2 ^ m)) = (W64 (wth s b) i : Nat) := by
    rw [← hor]
    congr 1
    rw [IntKind.wrap_u64]
    have e4 : (2 : Int) ^ m = ((2 ^ m : Nat) : Int) := by push_cast; rfl
    rw [e4]
    generalize (2 : Nat) ^ m = P at hp ⊢
    omega
  go_returns
  exact ⟨⟨_, rfl⟩, by rw [e3]; rfl⟩
set_option maxRecDepth 100000 in
set_option maxHeartbeats 4000000 in
theorem has_x {s : Nat → Bool} {b i m K h c : Nat} (w : World) (H : Rw w h K s) (hbi : b / 64 = i) (hbm : b % 64 = m) (hb : b < 64 * K) (hK : K ≤ 100000) (_ : K ≤ c) : Calls Tryd.prog 60 #[.slice (some ⟨h, 0, none⟩) K c, .int .i64 b] w fun e w' => e = .returned (.bool (s b)) ∧ w' = w := by
  have hlt := H.lt
  have hi : i < K := by omega
  have hc1 := H.cell hi
  have hw := W64_lt s i
  have hm : m < 64 := by omega
  have e1 : ((b : Int)) / 64 = (i : Int) := by omega
  have e2 : ((b : Int)) % 64 = (m : Int) := by omega
  go_enter Tryd.func60, Tryd.ntmps60
  go_wp2
  have e3 : (bits BinOp.and IntKind.u64 (↑(W64 s i) / 2 ^ m) 1 == 1) = s b := by
    have e4 : ((W64 s i : Nat) : Int) / 2 ^ m = ((W64 s i / 2 ^ m : Nat) : Int) := by push_cast; rfl
    have q := W64_has s b
    rw [hbi, hbm] at q
    have e5 := bits_and_u64_nat (W64 s i / 2 ^ m) 1 (by have := Nat.div_le_self (W64 s i) (2 ^ m); omega) (by omega)
    rw [q] at e5
    rw [e4]
    have e6 : ((1 : Nat) : Int) = 1 := rfl
    rw [e6] at e5
    rw [e5]
    cases s b <;> rfl
  go_returns
  exact ⟨by rw [e3]; rfl, rfl⟩
theorem add_c {s : Nat → Bool} {b K h c : Nat} (w : World) (H : Rw w h K s) (hb : b < 64 * K) (hK : K ≤ 100000) (_ : K ≤ c) : Calls Tryd.prog 48 #[.slice (some ⟨h, 0, none⟩) K c, .int .i64 b] w fun e w' => (∃ v, e = .returned v) ∧ w' = (w.drew.setCell ⟨h, b / 64, none⟩ (.int .u64 (W64 (wth s b) (b / 64) : Nat))) := add_x w H rfl rfl hb hK ‹_›
theorem has_c {s : Nat → Bool} {b K h c : Nat} (w : World) (H : Rw w h K s) (hb : b < 64 * K) (hK : K ≤ 100000) (_ : K ≤ c) : Calls Tryd.prog 60 #[.slice (some ⟨h, 0, none⟩) K c, .int .i64 b] w fun e w' => e = .returned (.bool (s b)) ∧ w' = w := has_x w H rfl rfl hb hK ‹_›
/-- Words i0 on are s's still, those before are the union's. -/
def mix (s t : Nat → Bool) (i : Nat) : Nat → Bool := fun j => s j || (decide (j < 64 * i) && t j)
set_option maxRecDepth 100000 in
set_option maxHeartbeats 4000000 in
theorem join_c {s t : Nat → Bool} {K h c h2 c2 : Nat} (w : World) (H : Rw w h K s) (H2 : Rw w h2 K t) (hne : h ≠ h2) (hK : K ≤ 100000) (hc : K ≤ c) (hc2 : K ≤ c2) : Calls Tryd.prog 76 #[.slice (some ⟨h, 0, none⟩) K c, .slice (some ⟨h2, 0, none⟩) K c2] w fun e w' => (∃ v, e = .returned v) ∧ Rw w' h K (uni s t) ∧ w.grownBy w' (some h) := by
  go_enter Tryd.func76, Tryd.ntmps76
  go_wp2
  go_loopw [8, 4, 5] (fun s8 s4 s5 wr => ∃ i : Nat, i ≤ K ∧ s8 = .int .i64 i ∧ Rw wr h K (mix s t i) ∧ w.grownBy wr (some h)) (fun s8 _ _ _ => ((K : Int) - intOf s8).toNat)
  case atStart =>
    exact ⟨0, by omega, rfl, H.ext fun j _ => by simp [mix], World.grownBy.refl _ _⟩
  case round =>
    obtain ⟨i, hi, rfl, hm, hg⟩ := hrel
    by_cases hlt : i < K
    · have h2' : Rw wr h2 K t := H2.block (hg.block h2 H2.lt (by simp; omega))
      have c1 := hm.cell hlt
      have f1 := hm.frozen i
      have c2 := h2'.cell hlt
      have l1 := hm.lt
      have l2 := h2'.lt
      have e3 : (i : Int) < K := by omega
      have hor := bits_or_u64_nat (W64 (mix s t i) i) (W64 t i) (W64_lt _ _) (W64_lt _ _)
      rw [W64_or] at hor
      go_wp2
      go_roundw
      case rel =>
        refine ⟨i + 1, by omega, by simp, ?_, hg.trans (grown_set _ _ _ _)⟩
        refine hm.set (t := mix s t (i + 1)) (W64_ext fun j hj => ?_) (fun j hj => W64_ext fun k hk => ?_)
        · have q1 : decide (64 * i + j < 64 * i) = false := by simp
          have q2 : decide (64 * i + j < 64 * (i + 1)) = true := by simp; omega
          simp only [uni, mix, q1, q2]
          simp
        · have q : decide (64 * j + k < 64 * (i + 1)) = decide (64 * j + k < 64 * i) := by simp only [decide_eq_decide]; omega
          simp only [mix, q]
      case measure => simp [intOf]; omega
    · obtain rfl : i = K := by omega
      go_wp2
      go_returns
      exact ⟨⟨_, rfl⟩, hm.ext fun j hj => by simp [mix, uni, hj], hg⟩
end Go.Proofs.YtmfdlcicbiincaaDoor
