/- Contract: Reverse of bytes. -/
import Derived.Maps.AppendAt
import Derived.Laws.IdiomStrings
import Derived.Test.YthaokkmbghgopaaC12
namespace Go.Proofs.Ythaokkmbghgopaa
open Go.RowKit


/-- Block g holds the bytes bs, and perhaps more. -/
def OwnB (w : World) (g : Nat) (bs : List UInt8) : Prop :=
  ∃ cur e, w.heap[g]? = some (.cells cur e (0, 0)) ∧ ∀ j (h : j < bs.length), cur[j]? = some (.int .u8 (bs[j].toNat : Int))
section
variable {w w' : World} {g : Nat} {bs : List UInt8}
theorem OwnB.lt (h : OwnB w g bs) : g < w.heap.size := by
  obtain ⟨cur, e, hh, _⟩ := h
  exact (Array.getElem?_eq_some_iff.1 hh).1
theorem OwnB.cell (h : OwnB w g bs) {j : Nat} (hj : j < bs.length) : w.cell? ⟨g, j, none⟩ = some (.int .u8 (bs[j].toNat : Int)) := by
  obtain ⟨cur, e, hh, hc⟩ := h
  rw [cell_of_row w g j cur e (0, 0) hh]
  exact hc j hj
theorem OwnB.frozen (h : OwnB w g bs) (j : Nat) : w.frozen? ⟨g, j, none⟩ = false := by
  obtain ⟨cur, e, hh, hc⟩ := h
  simp [World.frozen?, hh]
theorem OwnB.set (h : OwnB w g bs) {k : Nat} (v : UInt8) : OwnB (w.setCell ⟨g, k, none⟩ (.int .u8 (v.toNat : Int))) g (bs.set k v) := by
  obtain ⟨cur, e, hh, hc⟩ := h
  refine ⟨cur.setIfInBounds k (.int .u8 (v.toNat : Int)), e, ?_, fun j hj => ?_⟩
  · simp [World.setCell, Array.getElem?_modify, hh]
  · rw [List.length_set] at hj
    rw [Array.getElem?_setIfInBounds]
    by_cases hjk : k = j
    · subst hjk
      have hlt : k < cur.size := (Array.getElem?_eq_some_iff.1 (hc k hj)).1
      rw [if_pos rfl, if_pos hlt, List.getElem_set_self]
    · rw [if_neg hjk, hc j hj, List.getElem_set_ne hjk]
theorem OwnB.drew (h : OwnB w g bs) : OwnB w.drew g bs := h
theorem OwnB.block (h : OwnB w g bs) (hk : w'.heap[g]? = w.heap[g]?) : OwnB w' g bs := by
  obtain ⟨cur, e, hh, hc⟩ := h
  exact ⟨cur, e, hk.trans hh, hc⟩
end
/-- Turned round at both ends, i of each. -/
def RevAt (bs : List UInt8) (i : Nat) (os : List UInt8) : Prop := os.length = bs.length ∧ ∀ j, j < bs.length → os[j]? = if j < i ∨ bs.length ≤ j + i then bs[bs.length - 1 - j]? else bs[j]?
theorem RevAt.zero (bs : List UInt8) : RevAt bs 0 bs := ⟨rfl, fun j hj => by rw [if_neg (by omega)]⟩
theorem RevAt.here {bs os : List UInt8} {i : Nat} (h : RevAt bs i os) (hi : i + i + 1 < bs.length) (h1 : i < os.length) (h2 : bs.length - 1 - i < os.length) (h3 : i < bs.length) (h4 : bs.length - 1 - i < bs.length) : os[i] = bs[i] ∧ os[bs.length - 1 - i] = bs[bs.length - 1 - i] := by
  constructor
  · have := h.2 i (by omega)
    rw [if_neg (by omega), List.getElem?_eq_getElem h1, List.getElem?_eq_getElem h3] at this
    simpa using this
  · have := h.2 (bs.length - 1 - i) (by omega)
    rw [if_neg (by omega), List.getElem?_eq_getElem h2, List.getElem?_eq_getElem h4] at this
    simpa using this
theorem RevAt.succ {bs os : List UInt8} {i : Nat} (h : RevAt bs i os) (hi : i + i + 1 < bs.length) (h3 : i < bs.length) (h4 : bs.length - 1 - i < bs.length) :
    RevAt bs (i + 1) ((os.set i bs[bs.length - 1 - i]).set (bs.length - 1 - i) bs[i]) := by
  refine ⟨by simp [h.1], fun j hj => ?_⟩
  rw [List.getElem?_set, List.getElem?_set]
  by_cases e1 : bs.length - 1 - i = j
  · subst e1
    rw [if_pos rfl, if_pos (by simp [h.1]; omega), if_pos (by omega), show bs.length - 1 - (bs.length - 1 - i) = i by omega, List.getElem?_eq_getElem h3]
  · rw [if_neg e1]
    by_cases e2 : i = j
    · subst e2
      rw [if_pos rfl, if_pos (by rw [h.1]; omega), if_pos (by omega), List.getElem?_eq_getElem h4]
    · rw [if_neg e2, h.2 j hj]
      by_cases c : j < i ∨ bs.length ≤ j + i
      · rw [if_pos c, if_pos (by omega)]
      · rw [if_neg c, if_neg (by omega)]
theorem RevAt.done {bs os : List UInt8} {i : Nat} (h : RevAt bs i os) (hi : bs.length ≤ i + i + 1) : os = bs.reverse := by
  apply List.ext_getElem?
  intro j
  by_cases hj : j < bs.length
  · rw [h.2 j hj, List.getElem?_reverse hj]
    by_cases c : j < i ∨ bs.length ≤ j + i
    · rw [if_pos c]
    · rw [if_neg c]
      congr 1
      omega
  · rw [List.getElem?_eq_none (by rw [h.1]; omega), List.getElem?_eq_none (by simp; omega)]
def RevRel (bs : List UInt8) (g : Nat) (w : World) (s2 s3 : Value) (wr : World) : Prop :=
  ∃ (i : Nat) (os : List UInt8), s2 = .int .i64 i ∧ s3 = .int .i64 ((bs.length : Int) - 1 - i) ∧ i ≤ bs.length ∧ RevAt bs i os ∧ OwnB wr g os ∧ w.grownBy wr (some g)
theorem u8_bd (c : UInt8) : (0 : Int) ≤ (c.toNat : Int) ∧ (c.toNat : Int) ≤ 255 := by
  have := UInt8.toNat_lt c
  omega

set_option maxRecDepth 100000 in
set_option maxHeartbeats 4000000 in
theorem reverse_c (g c : Nat) (bs : List UInt8) (w : World) (h : OwnB w g bs) (hl : bs.length ≤ 1048576) :
    Calls Try.prog 83 #[.slice (some ⟨g, 0, none⟩) bs.length c] w fun e w' => e = .returned (.tuple #[]) ∧ OwnB w' g bs.reverse ∧ w.grownBy w' (some g) := by
  go_enter Try.func83, Try.ntmps83
  go_wp2
  go_loopw [2, 3] (RevRel bs g w) (fun _ s3 _ => (intOf s3 + 1).toNat)
  case atStart => exact ⟨0, bs, rfl, by rw [show ((0 : Nat) : Int) = 0 from rfl, Int.sub_zero], by omega, RevAt.zero bs, h, grown_refl w _⟩
  case round =>
    obtain ⟨i, os, rfl, rfl, hi, hR, hO, hB⟩ := hrel
    by_cases hlt : i + i + 1 < bs.length
    · have k1 : bs.length - 1 - i < bs.length := by omega
      have k2 : i < bs.length := by omega
      have h1 : i < os.length := by rw [hR.1]; omega
      have h2 : bs.length - 1 - i < os.length := by rw [hR.1]; omega
      obtain ⟨e1, e2⟩ := hR.here hlt h1 h2 (by omega) (by omega)
      have c1 := hO.cell h1
      have c2 := hO.cell h2
      rw [e1] at c1
      rw [e2] at c2
      have f1 := hO.frozen i
      have f2 := hO.frozen (bs.length - 1 - i)
      obtain ⟨j, hj⟩ : ∃ j, bs.length - 1 - i = j := ⟨_, rfl⟩
      have hne : i ≠ j := by omega
      have ej : (bs.length : Int) - 1 - (i : Int) = (j : Int) := by omega
      rw [ej]
      have t1 : (i : Int) < (j : Int) := by omega
      have t2 : (j : Int) < (bs.length : Int) := by omega
      have t3 : (i : Int) < (bs.length : Int) := by omega
      have HR := Lib.hid hR
      have HO := Lib.hid hO
      have HJ := Lib.hid hj
      have HL := Lib.hid hlt
      obtain ⟨x, hx⟩ : ∃ x : UInt8, bs[bs.length - 1 - i]'k1 = x := ⟨_, rfl⟩
      obtain ⟨y, hy⟩ : ∃ y : UInt8, bs[i]'k2 = y := ⟨_, rfl⟩
      rw [hx] at c2
      rw [hy] at c1
      rw [hj] at c2 f2
      have HX := Lib.hid hx
      have HY := Lib.hid hy
      clear hR hO hj hlt e1 e2 h1 h2 ej hx hy
      go_wp2_with fail
      go_region
      all_goals
        go_wp2
        go_roundw
        case rel =>
          have hj := HJ.out
          have hr := HR.out.succ HL.out k2 k1
          rw [HX.out, HY.out, hj] at hr
          refine ⟨i + 1, _, by rw [show ((i + 1 : Nat) : Int) = (i : Int) + 1 by omega], by rw [show (bs.length : Int) - 1 - ((i + 1 : Nat) : Int) = (j : Int) - 1 by omega], by omega, hr, ?_, grown_drew (grown_trans (grown_trans hB (grown_set _ _ _ _)) (grown_set _ _ _ _))⟩
          exact (((HO.out.set (k := i) x).set (k := j) y)).drew
        case measure => simp [intOf]
    · have HD := Lib.hid (hR.done (by omega))
      have HO := Lib.hid hO
      have t1 : decide ((i : Int) < (bs.length : Int) - 1 - i) = false := by simp; omega
      clear hR hO
      go_wp2
      go_end0
      exact ⟨rfl, by rw [← HD.out]; exact HO.out, hB⟩
end Go.Proofs.Ythaokkmbghgopaa
