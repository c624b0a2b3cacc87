/- without; addPairs. -/
import Derived.WalkKit
import Derived.WalkSpells
import Derived.WalkLawsBesides
import Derived.Handy
import Derived.Deep.RegionHeld3
import Derived.Deep.DeepCutAuto
import Derived.Deep.QuietTactic
import Derived.BigQuiet
import Derived.Lib.Hide
import Derived.KernelRfl
import Derived.WalkMore
import Derived.Deep.LoopGhost
import Derived.IntWalk
import Derived.Deep.RegionLaw
import Derived.RangeFuncBox
import Derived.Test.YtmfdlcicbiincaaDoorK6
namespace Go.Proofs.YtmfdlcicbiincaaDoor
open Go.RowKit


theorem infoRow : (Tryd.prog.info? 72).map (fun i => (i.zero, i.size, i.bytes)) = some (some (.slice none 0 0), 1, 24) := by kernel_rfl
theorem one_sl (h K : Nat) : ∀ u ∈ [Value.slice (some ⟨h, 0, none⟩) K K], u.oneCell' = true := fun u q => by
  obtain rfl := List.mem_singleton.1 q
  rfl
theorem bx_plus {w w' : World} {b : Nat} {t : TypeId} {v : Value} (h : Boxed w b t v) (hp : Plus w w') : Boxed w' b t v := (hp.below.block b h.lt).trans h
theorem bx_row {w w' : World} {b : Nat} {t : TypeId} {v : Value} {e2 : TypeId} {row : Option Nat} (h : Boxed w b t v) (hg : w.grownBy w' row) (hr : ∀ g, row = some g → ∃ cur z, w.heap[g]? = some (.cells cur e2 z)) (hne : t ≠ e2) : Boxed w' b t v := by
  refine h.kept hg (fun e3 => ?_)
  obtain ⟨cur2, z2, hh2⟩ := hr _ e3.symm
  unfold Boxed at h
  rw [h] at hh2
  injection hh2 with hh2
  injection hh2 with _ hh2 _
  exact hne hh2
theorem rowFor_p {n K : Nat} (w : World) (hK : Hid (K = (n + 63) / 64)) (hn : n ≤ 1000000) : Calls Tryd.prog 71 #[.int .i64 n] w fun e w' => e = .returned (.slice (some ⟨w.heap.size, 0, none⟩) K K) ∧ Rw w' w.heap.size K (fun _ => false) ∧ Plus w w' :=
  (rowFor_c w hK.out hn).mono fun e w' ⟨h1, h2⟩ => ⟨h1, by rw [h2]; exact Rw.new w K _ rfl, by rw [h2]; exact Plus.alloc (Plus.refl _) _⟩
theorem Rw.ty {w : World} {h K : Nat} {s : Nat → Bool} (H : Rw w h K s) {b i : Nat} {e2 : TypeId} {cs : Array Value} {y : Nat × Nat} {v : Value} (hb : w.heap[b]? = some (.cells cs e2 y)) (hne : e2 ≠ 95) : Rw (w.setCell ⟨b, i, none⟩ v) h K s := by
  refine H.other (fun e3 => ?_)
  obtain ⟨cur, hh, _⟩ := H
  rw [e3, hh] at hb
  injection hb with hb
  injection hb with _ hb _
  exact hne hb.symm
/-- Where the loop stands. -/
def Wo (w : World) (n K : Nat) (s7 : Value) (wr : World) : Prop := ∃ (j : Nat) (v : Value) (hs : List Nat), s7 = .int .i64 j ∧ j ≤ n ∧ Boxed wr w.heap.size 69 v ∧ wr.ownsRow (w.heap.size + 1) 72 1 v j (rvs K hs) ∧ hs.length = j ∧ hs.Nodup ∧ (∀ a, a < j → Rw wr (hs.getD a 0) K (fun _ => false)) ∧ (∀ h ∈ hs, w.heap.size ≤ h ∧ h < wr.heap.size) ∧ Below w.heap.size w wr
theorem getD_snoc {hs : List Nat} {h a : Nat} : (hs ++ [h]).getD a 0 = if a < hs.length then hs.getD a 0 else if a = hs.length then h else 0 := by
  rw [List.getD_eq_getElem?_getD, List.getD_eq_getElem?_getD, List.getElem?_append]
  by_cases h1 : a < hs.length
  · simp [h1]
  · by_cases h2 : a = hs.length
    · subst h2; simp
    · rw [if_neg h1, if_neg h1, if_neg h2, List.getElem?_eq_none (by simp; omega)]
      rfl
theorem Rw.row {w w' : World} {h K : Nat} {s : Nat → Bool} (H : Rw w h K s) {row : Option Nat} (hg : w.grownBy w' row) (hr : ∀ g, row = some g → ∃ cur z, w.heap[g]? = some (.cells cur 72 z)) : Rw w' h K s := by
  refine H.block (hg.block h H.lt (fun e3 => ?_))
  obtain ⟨cur2, z2, hh2⟩ := hr _ e3.symm
  obtain ⟨cur, hh, _⟩ := H
  rw [hh] at hh2
  injection hh2 with hh2
  injection hh2 with _ hh2 _
  exact absurd hh2 (by decide)
set_option maxRecDepth 100000 in
set_option maxHeartbeats 4000000 in
theorem without_c {n K : Nat} (w : World) (hK : Hid (K = (n + 63) / 64)) (hn : n ≤ 100000) : Calls Tryd.prog 47 #[.int .i64 n] w fun e w' => ∃ hs, e = .returned (.pointer (some ⟨w.heap.size, 0, none⟩)) ∧ Rl w' w.heap.size w.heap.size n K (fun _ _ => false) hs ∧ (∀ h ∈ hs, h < w'.heap.size) ∧ Plus w w' := by
  obtain ⟨i0, hi, hz0, hz1, hz2⟩ := info_parts infoRow
  have hn : n ≤ 1000000 := by omega
  go_enter Tryd.func47, Tryd.ntmps47
  go_wp2
  go_loopw [7] (fun s7 wr => Wo w n K s7 wr) (fun s7 _ => ((n : Int) - intOf s7).toNat)
  case atStart => exact ⟨0, .slice none 0 0, [], rfl, Nat.zero_le _, Boxed.new _ _ _, World.ownsRow_nil _ _ _ _, rfl, List.nodup_nil, fun a ha => absurd ha (by omega), fun _ h => absurd h (by simp), (Below.refl _ _).alloc (Nat.le_refl _) _⟩
  case round =>
    obtain ⟨j, v, hs, rfl, hj, hB1, hO, hsl, hnd, hrows, hlow, hB⟩ := hrel
    obtain ⟨x0, rfl⟩ := Plus.of_below hB
    have h1 := hB1.cell
    haveI : Old w.heap.size (plus w x0) := ⟨hB1.lt⟩
    have hfz := hB1.frozen
    have hsz : w.heap.size + 1 ≤ w.heap.size + x0.blocks.length := by have q := hB1.lt; rw [size_plus] at q; omega
    have HB := Lib.hid hB1
    have HO := Lib.hid hO
    have HS := Lib.hid hsl
    have HN := Lib.hid hnd
    have HR := Lib.hid hrows
    have HL := Lib.hid hlow
    have HBL := Lib.hid hB
    clear hB1 hO hsl hnd hrows hlow hB
    by_cases hlt : j < n
    · go_wp2_with fail
      go_region_law (first | (rw [if_pos (by simp [Region.wanted])]; unfold Oper.wp; go_simp; (with_reducible refine (rowFor_p _ hK hn).mono ?_); rintro e xw ⟨rfl, hC, ⟨x1, rfl⟩⟩; have HC := Lib.hid hC; clear hC; dsimp only) | (refine step_append_own rfl (.tmp 13) (.tmp 16) 67 rfl (w.heap.size + 1) 72 i0 (.slice none 0 0) 1 24 Tryd.underlying67 hi hz0 hz1 hz2 rfl (by decide) v j (rvs K hs) (by first | rfl | simp [Act.eval]) (own_plus HO.out (by repeat' (first | exact Plus.refl _ | refine Plus.alloc ?_ _ | refine Plus.plus ?_ _ | refine Plus.drew ?_ | refine Plus.drewN ?_ _))) ⟨w.heap.size + x0.blocks.length + x1.blocks.length, 0, none⟩ 1 1 [.slice (some ⟨w.heap.size + x0.blocks.length, 0, none⟩) K K] (by first | rfl | (simp [Act.eval]; done) | (simp [Act.eval]; rfl)) rfl (news_at' _ _ _ _ (by simp [go_sem])) (one_sl _ _) (by unfold maxLen; omega) (by omega) (by simp [go_sem]; omega) ?_; intro v1 w1 hown1 hgr1; obtain ⟨V1, cv1, rfl⟩ := own_form hown1; have HW2 := Lib.hid hown1; have HG2 := Lib.hid hgr1; clear hown1 hgr1; have hB4 := bx_row (bx_plus HB.out (by repeat' (first | exact Plus.refl _ | refine Plus.alloc ?_ _ | refine Plus.plus ?_ _ | refine Plus.drew ?_ | refine Plus.drewN ?_ _))) HG2.out (own_ty (own_plus HO.out (by repeat' (first | exact Plus.refl _ | refine Plus.alloc ?_ _ | refine Plus.plus ?_ _ | refine Plus.drew ?_ | refine Plus.drewN ?_ _)))) (by decide); have hc4 : w1.cell? ⟨w.heap.size, 0, none⟩ = some v := hB4.cell; have hf4 : w1.frozen? ⟨w.heap.size, 0, none⟩ = false := hB4.frozen; have HB4 := Lib.hid hB4; clear hB4))
      all_goals
        go_wp2_with fail
        go_roundw
        case rel =>
          refine ⟨j + 1, _, hs ++ [w.heap.size + x0.blocks.length], int_eq (by omega), by omega, HB4.out.set _, ?_, by rw [List.length_append, HS.out]; rfl, ?_, ?_, ?_, ?_⟩
          · rw [rvs_snoc]
            exact own_set HW2.out HB4.out (by decide)
          · rw [List.nodup_append]
            refine ⟨HN.out, by simp, fun a ha b hb => ?_⟩
            obtain rfl := List.mem_singleton.1 hb
            have q := (HL.out a ha).2
            rw [size_plus] at q
            omega
          · intro a ha
            rw [getD_snoc, HS.out]
            by_cases hl : a < j
            · rw [if_pos hl]
              exact (((HR.out a hl).plus (by repeat' (first | exact Plus.refl _ | refine Plus.alloc ?_ _ | refine Plus.plus ?_ _ | refine Plus.drew ?_ | refine Plus.drewN ?_ _))).row HG2.out (own_ty (own_plus HO.out (by repeat' (first | exact Plus.refl _ | refine Plus.alloc ?_ _ | refine Plus.plus ?_ _ | refine Plus.drew ?_ | refine Plus.drewN ?_ _))))).ty HB4.out (by decide)
            · obtain rfl : a = j := by omega
              rw [if_neg hl, if_pos rfl]
              have q : Rw (plus (plus w x0).drew x1) (w.heap.size + x0.blocks.length) K (fun _ => false) := by
                have q := HC.out
                rw [show (plus w x0).drew.heap.size = w.heap.size + x0.blocks.length from size_plus w x0] at q
                exact q
              exact ((q.plus (by repeat' (first | exact Plus.refl _ | refine Plus.alloc ?_ _ | refine Plus.plus ?_ _ | refine Plus.drew ?_ | refine Plus.drewN ?_ _))).row HG2.out (own_ty (own_plus HO.out (by repeat' (first | exact Plus.refl _ | refine Plus.alloc ?_ _ | refine Plus.plus ?_ _ | refine Plus.drew ?_ | refine Plus.drewN ?_ _))))).ty HB4.out (by decide)
          · intro h hh
            rw [World.size_setCell]
            have q := HG2.out.size
            rw [World.size_alloc, size_plus, size_plus] at q
            rcases List.mem_append.1 hh with h | h
            · have q3 := HL.out _ h
              rw [size_plus] at q3
              omega
            · obtain rfl := List.mem_singleton.1 h
              omega
          · exact (HBL.out.trans ((Plus.below (w' := _) (by repeat' (first | exact Plus.refl _ | refine Plus.alloc ?_ _ | refine Plus.plus ?_ _ | refine Plus.drew ?_ | refine Plus.drewN ?_ _))).mono (by simp [go_sem]))).grown HG2.out (by simp [go_sem]; omega) (fun j hj => Nat.le_trans (by omega) (own_ge HO.out j hj)) |>.setCell (Nat.le_refl _) _
        case measure => simp [intOf]; omega
    · obtain rfl : j = n := by omega
      go_wp2_with fail
      go_returns
      exact ⟨hs, rfl, ⟨⟨v, HB.out, own_base HO.out (by omega)⟩, HS.out, HN.out, fun h hh => (HL.out h hh).1, Nat.le_refl _, HR.out⟩, fun h hh => (HL.out h hh).2, Plus.is x0⟩
end Go.Proofs.YtmfdlcicbiincaaDoor
