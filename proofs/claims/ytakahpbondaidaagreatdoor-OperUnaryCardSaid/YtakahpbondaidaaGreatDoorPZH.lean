/- Contract: Reverse of bytes. Contract: Text. -/
import Derived.Maps.AppendAt
import Derived.Laws.IdiomStrings
import Derived.Deep.OwnRows
import Derived.Test.YtakahpbondaidaaGreatDoorPZG
import Derived.Test.YtakahpbondaidaaGreatDoorPZC
namespace Go.Proofs.YtakahpbondaidaaGreatDoor.Bg
open Go.RowKit


/-- Block g holds the bytes bs, and perhaps more. -/
def OwnB (w : World) (g : Nat) (bs : List UInt8) : Prop :=
  ∃ cur e, w.heap[g]? = some (.cells cur e (0, 0)) ∧ ∀ j (h : j < bs.length), cur[j]? = some (.int .u8 (bs[j].toNat : Int))
section
variable {w w' : World} {g : Nat} {bs : List UInt8}
theorem OwnB.lt (h : OwnB w g bs) : g < w.heap.size := by
  obtain ⟨cur, e, hh, _⟩ := h
  exact (Array.getElem?_eq_some_iff.1 hh).1
theorem OwnB.cell (h : OwnB w g bs) {j : Nat} (hj : j < bs.length) : w.cell? ⟨g, j, none⟩ = some (.int .u8 (bs[j].toNat : Int)) := by
  obtain ⟨cur, e, hh, hc⟩ := h
  rw [cell_of_row w g j cur e (0, 0) hh]
  exact hc j hj
theorem OwnB.frozen (h : OwnB w g bs) (j : Nat) : w.frozen? ⟨g, j, none⟩ = false := by
  obtain ⟨cur, e, hh, hc⟩ := h
  simp [World.frozen?, hh]
theorem OwnB.set (h : OwnB w g bs) {k : Nat} (v : UInt8) : OwnB (w.setCell ⟨g, k, none⟩ (.int .u8 (v.toNat : Int))) g (bs.set k v) := by
  obtain ⟨cur, e, hh, hc⟩ := h
  refine ⟨cur.setIfInBounds k (.int .u8 (v.toNat : Int)), e, ?_, fun j hj => ?_⟩
  · simp [World.setCell, Array.getElem?_modify, hh]
  · rw [List.length_set] at hj
    rw [Array.getElem?_setIfInBounds]
    by_cases hjk : k = j
    · subst hjk
      have hlt : k < cur.size := (Array.getElem?_eq_some_iff.1 (hc k hj)).1
      rw [if_pos rfl, if_pos hlt, List.getElem_set_self]
    · rw [if_neg hjk, hc j hj, List.getElem_set_ne hjk]
theorem OwnB.drew (h : OwnB w g bs) : OwnB w.drew g bs := h
theorem OwnB.block (h : OwnB w g bs) (hk : w'.heap[g]? = w.heap[g]?) : OwnB w' g bs := by
  obtain ⟨cur, e, hh, hc⟩ := h
  exact ⟨cur, e, hk.trans hh, hc⟩
end
/-- Turned round at both ends, i of each. -/
def RevAt (bs : List UInt8) (i : Nat) (os : List UInt8) : Prop := os.length = bs.length ∧ ∀ j, j < bs.length → os[j]? = if j < i ∨ bs.length ≤ j + i then bs[bs.length - 1 - j]? else bs[j]?
theorem RevAt.zero (bs : List UInt8) : RevAt bs 0 bs := ⟨rfl, fun j hj => by rw [if_neg (by omega)]⟩
theorem RevAt.here {bs os : List UInt8} {i : Nat} (h : RevAt bs i os) (hi : i + i + 1 < bs.length) (h1 : i < os.length) (h2 : bs.length - 1 - i < os.length) (h3 : i < bs.length) (h4 : bs.length - 1 - i < bs.length) : os[i] = bs[i] ∧ os[bs.length - 1 - i] = bs[bs.length - 1 - i] := by
  constructor
  · have := h.2 i (by omega)
    rw [if_neg (by omega), List.getElem?_eq_getElem h1, List.getElem?_eq_getElem h3] at this
    simpa using this
  · have := h.2 (bs.length - 1 - i) (by omega)
    rw [if_neg (by omega), List.getElem?_eq_getElem h2, List.getElem?_eq_getElem h4] at this
    simpa using this
theorem RevAt.succ {bs os : List UInt8} {i : Nat} (h : RevAt bs i os) (hi : i + i + 1 < bs.length) (h3 : i < bs.length) (h4 : bs.length - 1 - i < bs.length) :
    RevAt bs (i + 1) ((os.set i bs[bs.length - 1 - i]).set (bs.length - 1 - i) bs[i]) := by
  refine ⟨by simp [h.1], fun j hj => ?_⟩
  rw [List.getElem?_set, List.getElem?_set]
  by_cases e1 : bs.length - 1 - i = j
  · subst e1
    rw [if_pos rfl, if_pos (by simp [h.1]; omega), if_pos (by omega), show bs.length - 1 - (bs.length - 1 - i) = i by omega, List.getElem?_eq_getElem h3]
  · rw [if_neg e1]
    by_cases e2 : i = j
    · subst e2
      rw [if_pos rfl, if_pos (by rw [h.1]; omega), if_pos (by omega), List.getElem?_eq_getElem h4]
    · rw [if_neg e2, h.2 j hj]
      by_cases c : j < i ∨ bs.length ≤ j + i
      · rw [if_pos c, if_pos (by omega)]
      · rw [if_neg c, if_neg (by omega)]
theorem RevAt.done {bs os : List UInt8} {i : Nat} (h : RevAt bs i os) (hi : bs.length ≤ i + i + 1) : os = bs.reverse := by
  apply List.ext_getElem?
  intro j
  by_cases hj : j < bs.length
  · rw [h.2 j hj, List.getElem?_reverse hj]
    by_cases c : j < i ∨ bs.length ≤ j + i
    · rw [if_pos c]
    · rw [if_neg c]
      congr 1
      omega
  · rw [List.getElem?_eq_none (by rw [h.1]; omega), List.getElem?_eq_none (by simp; omega)]
def RevRel (bs : List UInt8) (g : Nat) (w : World) (s2 s3 : Value) (wr : World) : Prop :=
  ∃ (i : Nat) (os : List UInt8), s2 = .int .i64 i ∧ s3 = .int .i64 ((bs.length : Int) - 1 - i) ∧ i ≤ bs.length ∧ RevAt bs i os ∧ OwnB wr g os ∧ w.grownBy wr (some g)
set_option maxRecDepth 100000 in
set_option maxHeartbeats 4000000 in
theorem reverse_c (g c : Nat) (bs : List UInt8) (w : World) (h : OwnB w g bs) (hl : bs.length ≤ 1048576) :
    Calls Tryz.prog 121 #[.slice (some ⟨g, 0, none⟩) bs.length c] w fun e w' => e = .returned (.tuple #[]) ∧ OwnB w' g bs.reverse ∧ w.grownBy w' (some g) := by
  go_enter Tryz.func121, Tryz.ntmps121
  go_wp2
  go_loopw [2, 3] (RevRel bs g w) (fun _ s3 _ => (intOf s3 + 1).toNat)
  case atStart => exact ⟨0, bs, rfl, by rw [show ((0 : Nat) : Int) = 0 from rfl, Int.sub_zero], by omega, RevAt.zero bs, h, grown_refl w _⟩
  case round =>
    obtain ⟨i, os, rfl, rfl, hi, hR, hO, hB⟩ := hrel
    by_cases hlt : i + i + 1 < bs.length
    · have k1 : bs.length - 1 - i < bs.length := by omega
      have k2 : i < bs.length := by omega
      have h1 : i < os.length := by rw [hR.1]; omega
      have h2 : bs.length - 1 - i < os.length := by rw [hR.1]; omega
      obtain ⟨e1, e2⟩ := hR.here hlt h1 h2 (by omega) (by omega)
      have c1 := hO.cell h1
      have c2 := hO.cell h2
      rw [e1] at c1
      rw [e2] at c2
      have f1 := hO.frozen i
      have f2 := hO.frozen (bs.length - 1 - i)
      obtain ⟨j, hj⟩ : ∃ j, bs.length - 1 - i = j := ⟨_, rfl⟩
      have hne : i ≠ j := by omega
      have ej : (bs.length : Int) - 1 - (i : Int) = (j : Int) := by omega
      rw [ej]
      have t1 : (i : Int) < (j : Int) := by omega
      have t2 : (j : Int) < (bs.length : Int) := by omega
      have t3 : (i : Int) < (bs.length : Int) := by omega
      have HR := Lib.hid hR
      have HO := Lib.hid hO
      have HJ := Lib.hid hj
      have HL := Lib.hid hlt
      obtain ⟨x, hx⟩ : ∃ x : UInt8, bs[bs.length - 1 - i]'k1 = x := ⟨_, rfl⟩
      obtain ⟨y, hy⟩ : ∃ y : UInt8, bs[i]'k2 = y := ⟨_, rfl⟩
      rw [hx] at c2
      rw [hy] at c1
      rw [hj] at c2 f2
      have HX := Lib.hid hx
      have HY := Lib.hid hy
      clear hR hO hj hlt e1 e2 h1 h2 ej hx hy
      go_wp2_with fail
      go_region
      all_goals
        go_wp2
        go_roundw
        case rel =>
          have hj := HJ.out
          have hr := HR.out.succ HL.out k2 k1
          rw [HX.out, HY.out, hj] at hr
          refine ⟨i + 1, _, by rw [show ((i + 1 : Nat) : Int) = (i : Int) + 1 by omega], by rw [show (bs.length : Int) - 1 - ((i + 1 : Nat) : Int) = (j : Int) - 1 by omega], by omega, hr, ?_, grown_drew (grown_trans (grown_trans hB (grown_set _ _ _ _)) (grown_set _ _ _ _))⟩
          exact (((HO.out.set (k := i) x).set (k := j) y)).drew
        case measure => simp [intOf]
    · have HD := Lib.hid (hR.done (by omega))
      have HO := Lib.hid hO
      have t1 : decide ((i : Int) < (bs.length : Int) - 1 - i) = false := by simp; omega
      clear hR hO
      go_wp2
      go_end0
      exact ⟨rfl, by rw [← HD.out]; exact HO.out, hB⟩
end Go.Proofs.YtakahpbondaidaaGreatDoor.Bg

namespace Go.Proofs.YtakahpbondaidaaGreatDoor.Bg
open Go.RowKit


theorem info5 : (Tryz.prog.info? 5).map (fun i => (i.zero, i.size, i.bytes)) = some (some (.int .u8 0), 1, 1) := by kernel_rfl
def u8s (bs : List UInt8) : List Value := bs.map fun (c : UInt8) => .int .u8 (c.toNat : Int)
theorem u8s_snoc (bs : List UInt8) (c : UInt8) : u8s (bs ++ [c]) = u8s bs ++ [.int .u8 (c.toNat : Int)] := by simp [u8s]
theorem one_u8 (z : Int) : ∀ u ∈ [Value.int .u8 z], u.oneCell' = true := fun u h => by
  rw [List.mem_singleton] at h
  subst h
  rfl
theorem ownB_of {w : World} {b : Nat} {v : Value} {bs : List UInt8} (h : w.ownsRow b 5 1 v bs.length (u8s bs)) (h0 : 0 < bs.length) : ∃ g c, v = .slice (some ⟨g, 0, none⟩) bs.length c ∧ b ≤ g ∧ OwnB w g bs := by
  rcases h.2 with ⟨_, e⟩ | ⟨g, cap, cur, rfl, hb, hg, hl, hm, hs, ht⟩
  · omega
  · refine ⟨g, cap, rfl, hb, cur, 5, hg, fun j hj => ?_⟩
    have e : cur[j]? = cur.toList[j]? := by simp
    have e2 : (cur.toList.take (bs.length * 1))[j]? = cur.toList[j]? := by rw [List.getElem?_take, if_pos (by omega)]
    rw [e, ← e2, ht]
    unfold u8s
    rw [List.getElem?_map, List.getElem?_eq_getElem hj]
    rfl
theorem dec0_len (k : Nat) : ∀ n, n < 10 ^ k → (dec0 n).length ≤ k := by
  induction k with
  | zero => intro n h; have : n = 0 := by simpa using h
            subst this; rw [dec0_zero]; simp
  | succ k ih =>
    intro n h
    by_cases h0 : n = 0
    · subst h0; rw [dec0_zero]; simp
    · rw [dec0_pos h0, List.length_append]
      have := ih (n / 10) (by rw [Nat.pow_succ] at h; omega)
      simp; omega
theorem isZero_i (A : Option Addr) (xs : List Nat) (n c : Nat) (w : World) (h : Lim w A xs) (hn : n = xs.length) (hl : xs.length ≤ c) (hc : c ≤ 9223372036854775807) :
    Calls Tryz.prog 119 #[.slice A n c] w fun e w' => e = .returned (.bool (val xs == 0)) ∧ w = w' := by
  subst hn
  exact isZero_c A xs c w h hl hc
theorem shrink_i (g : Nat) (xs : List Nat) (n c q : Nat) (qi : Int) (w : World) (h : Own w g xs) (hn : n = xs.length) (hqi : qi = q) (hq : q < B) (q0 : 0 < q) (hl : xs.length ≤ 1048576) :
    Calls Tryz.prog 120 #[.slice (some ⟨g, 0, none⟩) n c, .int .u32 qi] w (Shrunk g xs q w) := by
  subst hn hqi
  exact shrink_c g xs c q w h hq q0 hl
theorem reverse_i (g n c : Nat) (bs : List UInt8) (w : World) (h : OwnB w g bs) (hn : n = bs.length) (hl : bs.length ≤ 1048576) :
    Calls Tryz.prog 121 #[.slice (some ⟨g, 0, none⟩) n c] w fun e w' => e = .returned (.tuple #[]) ∧ OwnB w' g bs.reverse ∧ w.grownBy w' (some g) := by
  subst hn
  exact reverse_c g c bs w h hl
/-- Digits that are done, behind those that are to come. -/
def TxtRel (M gl L cl : Nat) (w : World) (k : Nat) (s3 : Value) (wr : World) : Prop :=
  ∃ (m : Nat) (bs : List UInt8) (os : List Nat), m ≤ k ∧ dec0 m ++ bs.reverse = dec0 M ∧ wr.ownsRow w.heap.size 5 1 s3 bs.length (u8s bs) ∧ s3.ownBlock ≠ some gl ∧ Own wr gl os ∧ os.length = L ∧ val os = m ∧ L ≤ cl ∧ cl ≤ 9223372036854775807 ∧ w.heap.size ≤ gl ∧ Below w.heap.size w wr
theorem TxtRel.step {M gl L cl d : Nat} {m : Nat} {bs : List UInt8} {os : List Nat} {V wr w1 w2 : World} {v v1 : Value} {o : Obj} (h0 : m ≠ 0) (hd : m % 10 = d) (h1 : dec0 m ++ bs.reverse = dec0 M) (hw : wr.ownsRow V.heap.size 5 1 v bs.length (u8s bs)) (hne : v.ownBlock ≠ some gl)
    (hO : Own w1 gl os) (hl : os.length = L) (hv : val os = m / 10) (q1 : L ≤ cl) (q2 : cl ≤ 9223372036854775807) (hgl : V.heap.size ≤ gl) (hB : Below V.heap.size V wr) (hg1 : wr.grownBy w1 (some gl))
    (hw2 : w2.ownsRow V.heap.size 5 1 v1 (bs.length + 1) (u8s bs ++ [.int .u8 ((48 : Int) + (d : Nat))])) (hg2 : (w1.alloc o).grownBy w2 v.ownBlock) (hat : v1.ownBlock = v.ownBlock ∨ v1.ownBlock = some (w1.alloc o).heap.size) : TxtRel M gl L cl V (m / 10) v1 w2 := by
  have e1 : (48 : Int) + (d : Nat) = ((UInt8.ofNat (48 + d)).toNat : Int) := by
    have : d < 10 := by rw [← hd]; exact Nat.mod_lt _ (by decide)
    rw [digit_toNat this]; omega
  have hlt : gl < w1.heap.size := hO.lt
  refine ⟨m / 10, bs ++ [UInt8.ofNat (48 + d)], os, Nat.le_refl _, ?_, ?_, ?_, (hO.alloc o).grown hg2 (fun e => hne e.symm), hl, hv, q1, q2, hgl, ?_⟩
  · rw [← h1, dec0_pos h0, hd]
    simp
  · rw [u8s_snoc, ← e1, List.length_append]
    exact hw2
  · rcases hat with e | e
    · rw [e]; exact hne
    · rw [e]
      intro e2
      injection e2 with e2
      rw [World.size_alloc] at e2
      omega
  · have hB1 : Below V.heap.size V w1 := hB.grown hg1 hB.size (fun j e => by injection e with e; omega)
    exact (hB1.alloc hB1.size o).grown hg2 (by rw [World.size_alloc]; have := hB1.size; omega) (fun j e => (hw.lt j e).1)
theorem TxtRel.len {M m : Nat} {bs : List UInt8} (h : dec0 m ++ bs.reverse = dec0 M) (hM : M < B ^ 8) : bs.length ≤ 78 := by
  have h1 := congrArg List.length h
  rw [List.length_append, List.length_reverse] at h1
  have h2 := dec0_len 78 M (Nat.lt_of_lt_of_le hM (by decide))
  omega

set_option maxRecDepth 100000 in
set_option maxHeartbeats 8000000 in
theorem text_h (an pb : Bool) (A : Option Addr) (xs us : List Nat) (n c : Nat) (w : World) (ha : Hid (Arg w A xs n c))
    (h1 : Hid (decide (bigI an xs < 0) = pb ∧ dig (bigI an xs).natAbs = us)) (hu : us.length ≤ 8) (h0 : us.length ≠ 0) (T : List UInt8) (hT : Hid ((if pb then 45 :: dec0 (val us) else dec0 (val us)) = T)) (hM : Hid (val us < B ^ 8)) (hP : Hid (0 < val us)) :
    Calls Tryz.prog 59 #[.agg #[.bool an, .slice A n c]] w fun e w' => e = .returned (.string ⟨T.toArray⟩) ∧ Plus w w' := by
  obtain ⟨i0, hi, hz0, hz1, hz2⟩ := info_parts info5
  have hb0 : ((us.length : Int) == 0) = false := by simpa using h0
  have HI := Lib.hid (And.intro hi (And.intro hz0 (And.intro hz1 hz2)))
  clear hi hz0 hz1 hz2
  go_enter Tryz.func59, Tryz.ntmps59
  go_wp2_with (go_at_call 118; (with_reducible refine (valid_h h1 _ (ha.out.plus (by repeat' (first | exact Plus.refl _ | refine Plus.alloc ?_ _ | refine Plus.plus ?_ _ | refine Plus.drew ?_ | refine Plus.drewN ?_ _)))).mono ?_); rintro e w1 ⟨A1, c1, rfl, _, _, q3, ⟨x1, rfl⟩⟩; have Q3 := Lib.hid q3; clear q3)
  have Q4 := Lib.hid ((Q3.out.res (b' := pb) (a' := A1) (n' := us.length) (c' := c1)).alloc (.cells #[] 5))
  have hbox : (_root_.Go.Proofs.YtakahpbondaidaaGreatDoor.plus (w.alloc (.cells #[.bool pb, .slice A1 us.length c1] 26)) x1).cell? ⟨w.heap.size, 0, none⟩ = some (.bool pb) := by simp [go_sem]
  have hpl : Plus w (_root_.Go.Proofs.YtakahpbondaidaaGreatDoor.plus (w.alloc (.cells #[.bool pb, .slice A1 us.length c1] 26)) x1) := by repeat' (first | exact Plus.refl _ | refine Plus.alloc ?_ _ | refine Plus.plus ?_ _ | refine Plus.drew ?_ | refine Plus.drewN ?_ _)
  have hsz : w.heap.size < (_root_.Go.Proofs.YtakahpbondaidaaGreatDoor.plus (w.alloc (.cells #[.bool pb, .slice A1 us.length c1] 26)) x1).heap.size := by rw [size_plus, World.size_alloc]; omega
  clear Q3
  obtain ⟨V, hV⟩ : ∃ V, _root_.Go.Proofs.YtakahpbondaidaaGreatDoor.plus (w.alloc (.cells #[.bool pb, .slice A1 us.length c1] 26)) x1 = V := ⟨_, rfl⟩
  rw [hV] at Q4 hbox hpl hsz ⊢
  have hg0 : w.heap.size + 1 + x1.blocks.length = V.heap.size := by rw [← hV, size_plus, World.size_alloc]
  rw [hg0]
  have HPL := Lib.hid hpl
  have HBX := Lib.hid hbox
  clear hV hg0 hpl hbox
  refine (clone_c _ us _ _ _ Q4.out rfl (by omega)).mono ?_
  rintro e w1 ⟨v, rfl, hown, hB1⟩
  obtain ⟨gl, cl, rfl, q1, q2, q3, q4⟩ := own_of_own Q4.out.1 hown (by omega)
  have hB2 : Below V.heap.size V w1 := ((Below.refl _ V).alloc (Nat.le_refl _) _).trans (hB1.mono (by rw [World.size_alloc]; omega))
  have hrow : w1.heap[V.heap.size]? = some (.cells #[] 5) := (hB1.block _ (by rw [World.size_alloc]; omega)).trans (heap_alloc_new V _)
  have hstart : TxtRel (val us) gl us.length cl V (val us) (.slice (some ⟨V.heap.size, 0, none⟩) 0 0) w1 :=
    ⟨val us, [], us, Nat.le_refl _, by simp, ⟨rfl, .inr ⟨V.heap.size, 0, #[], rfl, Nat.le_refl _, hrow, Nat.le_refl _, by unfold maxLen; omega, rfl, rfl⟩⟩, by
      rw [World.size_alloc] at q3
      simp [Value.ownBlock]; omega, q4, rfl, rfl, q1, q2, by rw [World.size_alloc] at q3; omega, hB2⟩
  have HST := Lib.hid hstart
  clear hown hB1 hB2 hrow hstart q1 q2 q3 q4
  go_wp2_with fail
  go_loopg [3] (val us) (TxtRel (val us) gl us.length cl V)
  case atStart => exact HST.out
  case round =>
    obtain ⟨m, bs, os, hm, hd, hown, hne, hO, hol, hov, q1, q2, hgl, hB⟩ := hrel
    have hbl := TxtRel.len hd hM.out
    obtain ⟨hi, hz0, hz1, hz2⟩ := HI.out
    by_cases h0 : m = 0
    · subst h0
      rw [dec0_zero, List.nil_append] at hd
      have hz : (val os == 0) = true := by rw [hov]; rfl
      have hbx : wr.cell? ⟨w.heap.size, 0, none⟩ = some (.bool pb) := (hB.cell (p := ⟨w.heap.size, 0, none⟩) hsz).trans HBX.out
      have hlen : 0 < bs.length := by
        rcases bs with _ | ⟨b0, bs⟩
        · have := hP.out
          unfold dec0 at hd
          rw [if_neg (by omega)] at hd
          exact absurd hd.symm (dec_ne_nil _)
        · simp
      have HZ := Lib.hid hz
      have HO := Lib.hid hO
      have HOL := Lib.hid hol
      have HD := Lib.hid hd
      have HW := Lib.hid hown
      have HBF0 := Lib.hid hB
      have hVs : V.heap.size ≤ wr.heap.size := hB.size
      clear hz hO hol hov hd hown hne
      cases pb
      · have HWF := HW
        have HLF : Hid (0 < bs.length ∧ bs.length ≤ 78) := Lib.hid ⟨hlen, hbl⟩
        have HBF := HBF0
        obtain ⟨g, c3, rfl, p1, p2⟩ := ownB_of HWF.out hlen
        have P2 := Lib.hid p2
        clear p2
        go_wp2_with (go_at_call 119; (with_reducible refine (isZero_i _ os _ _ _ HO.out.toLim HOL.out.symm (by rw [HOL.out]; exact q1) q2).mono ?_); rintro e w2 ⟨rfl, rfl⟩; rw [HZ.out])
        refine (reverse_i g _ c3 bs _ P2.out rfl (by omega)).mono ?_
        rintro e w4 ⟨rfl, p4, p5⟩
        have hcv := run_convert_bytes_back (P := Tryz.prog) w4 125 9 5 ⟨g, 0, none⟩ c3 _ Tryz.underlying125 Tryz.underlying5 Tryz.underlying9 (fun j hj => by rw [zero_add_addr]; exact p4.cell hj)
        rw [List.length_reverse] at hcv
        have HPW : Hid (Plus w w4) := Lib.hid (HPL.out.trans (Plus.of_below (HBF.out.grown p5 HBF.out.size (fun k e => by injection e with e; omega))))
        have HTT : Hid (bs.reverse = T) := Lib.hid (by rw [HD.out]; exact hT.out)
        clear p4 p5
        go_wp2_with fail
        go_ret
        exact ⟨by rw [← HTT.out]; rfl, HPW.out⟩
      · go_wp2_with (first | (go_at_call 119; (with_reducible refine (isZero_i _ os _ _ _ HO.out.toLim HOL.out.symm (by rw [HOL.out]; exact q1) q2).mono ?_); rintro e w2 ⟨rfl, rfl⟩; rw [HZ.out]) | (at_builtin; refine wpList_append_own_at _ rfl _ _ 125 rfl V.heap.size 5 i0 (.int .u8 0) 1 1 Tryz.underlying125 hi hz0 hz1 hz2 rfl (by decide) _ _ _ rfl (HW.out.alloc _) ⟨_, 0, none⟩ 1 1 [.int .u8 (45)] rfl rfl (news1 _ _ _) (one_u8 _) (by unfold maxLen; omega) (by omega) (by rw [World.size_alloc]; omega) ?_; intro v1 w3 hown3 hgr3 _ _; have HW3 := Lib.hid hown3; have HG3 := Lib.hid hgr3; clear hown3 hgr3))
        have hW4 : w3.ownsRow V.heap.size 5 1 v1 (bs ++ [45]).length (u8s (bs ++ [45])) := by
          rw [u8s_snoc, List.length_append]
          exact HW3.out
        have hB4 : Below V.heap.size V w3 := (HBF0.out.alloc hVs _).grown HG3.out (by rw [World.size_alloc]; omega) (fun j e => (HW.out.lt j e).1)
        have HB4 := Lib.hid hB4
        clear hB4
        obtain ⟨g, c3, rfl, p1, p2⟩ := ownB_of hW4 (by simp)
        have P2 := Lib.hid p2
        clear p2 hW4
        refine (reverse_i g _ c3 (bs ++ [45]) _ P2.out rfl (by simp; omega)).mono ?_
        rintro e w4 ⟨rfl, p4, p5⟩
        have hcv := run_convert_bytes_back (P := Tryz.prog) w4 125 9 5 ⟨g, 0, none⟩ c3 _ Tryz.underlying125 Tryz.underlying5 Tryz.underlying9 (fun j hj => by rw [zero_add_addr]; exact p4.cell hj)
        rw [List.length_reverse, (by simp : (bs ++ [45] : List UInt8).length = bs.length + 1)] at hcv
        have HPW : Hid (Plus w w4) := Lib.hid (HPL.out.trans (Plus.of_below (HB4.out.grown p5 HB4.out.size (fun k e => by injection e with e; omega))))
        have HTT : Hid ((bs ++ [45]).reverse = T) := Lib.hid (by rw [← hT.out, List.reverse_append, HD.out]; rfl)
        clear p4 p5
        go_wp2_with fail
        go_ret
        exact ⟨by rw [← HTT.out, List.reverse_append]; rfl, HPW.out⟩
    · have hz : (val os == 0) = false := by rw [hov]; simpa using h0
      have HZ := Lib.hid hz
      have HO := Lib.hid hO
      have HOL := Lib.hid hol
      have HOV := Lib.hid hov
      have HD := Lib.hid hd
      have HW := Lib.hid hown
      have HNE := Lib.hid hne
      have H0 := Lib.hid h0
      clear hz hO hol hov hd hown hne h0
      have hd10 : m % 10 < 10 := Nat.mod_lt _ (by decide)
      obtain ⟨d, hdd⟩ : ∃ d, m % 10 = d := ⟨_, rfl⟩
      rw [hdd] at hd10
      have HDD := Lib.hid hdd
      clear hdd
      have d1 : (d : Int) ≤ 9 := by omega
      clear hd10
      go_wp2_with fail
      refine (isZero_i _ os _ _ _ HO.out.toLim HOL.out.symm (by rw [HOL.out]; exact q1) q2).mono ?_
      rintro e w2 ⟨rfl, rfl⟩
      rw [HZ.out]
      go_wp2_with fail
      refine (shrink_i gl os _ _ 10 _ _ HO.out HOL.out.symm rfl (by decide) (by decide) (by have := HOL.out; omega)).mono ?_
      rintro e w2 ⟨os2, rfl, hO2, hv2, hl2, hg2⟩
      rw [HOV.out, HDD.out]
      have HO2 := Lib.hid hO2
      have HV2 : Hid (val os2 = m / 10) := Lib.hid (by rw [hv2, HOV.out])
      have HL2 : Hid (os2.length = us.length) := Lib.hid (by rw [hl2, HOL.out])
      have HG2 := Lib.hid hg2
      have HWK : Hid (w2.ownsRow V.heap.size 5 1 u3 bs.length (u8s bs)) := Lib.hid (HW.out.kept hg2 (.inr HNE.out))
      have hVs : V.heap.size ≤ w2.heap.size := Nat.le_trans hB.size hg2.size
      clear hO2 hv2 hl2 hg2
      go_wp2_with (at_builtin; refine wpList_append_own_at _ rfl _ _ 125 rfl V.heap.size 5 i0 (.int .u8 0) 1 1 Tryz.underlying125 hi hz0 hz1 hz2 rfl (by decide) _ _ _ rfl (HWK.out.alloc _) ⟨_, 0, none⟩ 1 1 [.int .u8 ((48 : Int) + (d : Nat))] rfl rfl (news1 _ _ _) (one_u8 _) (by unfold maxLen; omega) (by omega) (by rw [World.size_alloc]; omega) ?_; intro v1 w3 hown3 hgr3 _ hat3; have HW3 := Lib.hid hown3; have HG3 := Lib.hid hgr3; have HA3 := Lib.hid hat3; clear hown3 hgr3 hat3)
      go_roundg (m / 10)
      case rel => exact TxtRel.step H0.out HDD.out HD.out HW.out HNE.out HO2.out HL2.out HV2.out q1 q2 hgl hB HG2.out HW3.out HG3.out HA3.out
      case measure => have := H0.out; omega

theorem text_c {an : Bool} {A : Option Addr} {xs : List Nat} {n c : Nat} (w : World) (ha : Arg w A xs n c) :
    Calls Tryz.prog 59 #[.agg #[.bool an, .slice A n c]] w fun e w' => e = .returned (.string ⟨(txt (bigI an xs)).toArray⟩) ∧ Plus w w' := by
  by_cases h0 : bigI an xs = 0
  · have h1 : Hid (decide (bigI an xs < 0) = false ∧ dig (bigI an xs).natAbs = []) := Lib.hid (by rw [h0]; exact ⟨rfl, dig_zero⟩)
    have HA := Lib.hid ha
    have e : txt (bigI an xs) = [48] := by rw [h0]; exact dec_small (by decide)
    rw [e]
    clear ha h0 e
    go_enter Tryz.func59, Tryz.ntmps59
    go_wp2_with (go_at_call 118; (with_reducible refine (valid_h h1 _ (HA.out.plus (by repeat' (first | exact Plus.refl _ | refine Plus.alloc ?_ _ | refine Plus.plus ?_ _ | refine Plus.drew ?_ | refine Plus.drewN ?_ _)))).mono ?_); rintro e w1 ⟨A1, c1, rfl, _, _, q3, ⟨x1, rfl⟩⟩; rw [show ([] : List Nat).length = 0 from rfl])
    go_ret
    refine ⟨rfl, ?_⟩
    repeat' (first | exact Plus.refl _ | refine Plus.alloc ?_ _ | refine Plus.plus ?_ _ | refine Plus.drew ?_ | refine Plus.drewN ?_ _)
  · have hne : (bigI an xs).natAbs ≠ 0 := by omega
    have hab := bigI_abs (neg := an) ha.lim.1
    refine text_h an _ A xs _ n c w (Lib.hid ha) (Lib.hid ⟨rfl, rfl⟩) (dig_len_le hab) (dig_ne hne) _ (Lib.hid ?_) (Lib.hid (by rw [val_dig]; exact hab)) (Lib.hid (by rw [val_dig]; omega))
    rw [val_dig]
    unfold txt dec0
    rw [if_neg hne]
    by_cases hn : bigI an xs < 0
    · rw [if_pos (decide_eq_true hn), if_pos hn]
    · rw [if_neg (by simpa using hn), if_neg hn]
end Go.Proofs.YtakahpbondaidaaGreatDoor.Bg
namespace Go.Proofs.YtakahpbondaidaaGreatDoor.Bg
open Go.RowKit


end Go.Proofs.YtakahpbondaidaaGreatDoor.Bg

namespace Go.Proofs.YtakahpbondaidaaGreatDoor.Bg
open Go.RowKit
/-- A number that is returned is an argument again. -/
theorem arg_of {w : World} {A : Option Addr} {n : Int} {c : Nat} (hab : n.natAbs < B ^ 8) (h1 : (dig n.natAbs).length ≤ c) (h2 : c ≤ 9223372036854775807) (h3 : Lim w A (dig n.natAbs)) : Arg w A (dig n.natAbs) (dig n.natAbs).length c :=
  ⟨h3, rfl, by have := dig_len_le hab; omega, h1, h2⟩



/-- A number that is short enough: its sign, its limbs. -/
structure Nm (n : Int) (pb : Bool) (us : List Nat) : Prop where
  neg : decide (n < 0) = pb
  mag : dig n.natAbs = us
  abs : n.natAbs < B ^ 8
theorem Nm.val {n : Int} {pb : Bool} {us : List Nat} (h : Nm n pb us) : bigI pb us = n := by
  obtain ⟨rfl, rfl, h3⟩ := h
  exact bigI_dig h3
theorem Nm.mk' {n : Int} (h : n.natAbs < B ^ 8) : Nm n (decide (n < 0)) (dig n.natAbs) := ⟨rfl, rfl, h⟩
theorem Nm.arg {n : Int} {pb : Bool} {us : List Nat} (h : Nm n pb us) {w : World} {A : Option Addr} {c : Nat} (h1 : (dig n.natAbs).length ≤ c) (h2 : c ≤ 9223372036854775807) (h3 : Lim w A (dig n.natAbs)) : Arg w A us us.length c := by
  obtain ⟨rfl, rfl, h4⟩ := h
  exact arg_of h4 h1 h2 h3
def OfN (z r : Int) (pb : Bool) (us : List Nat) : Prop := Nm r pb us ∧ z = r ∧ -9223372036854775808 ≤ r ∧ r ≤ 9223372036854775807
def NegN (a r : Int) (pb : Bool) (us : List Nat) : Prop := Nm r pb us ∧ -a = r
def AddN (a b r : Int) (ok : Bool) (pb : Bool) (us : List Nat) : Prop := Nm r pb us ∧ ok = decide ((a + b).natAbs < B ^ 8) ∧ r = if (a + b).natAbs < B ^ 8 then a + b else 0
def DivN (a b r er : Int) (pb : Bool) (us : List Nat) : Prop := Nm r pb us ∧ er = (if b.natAbs = 0 then 4 else 0) ∧ r = if b.natAbs = 0 then 0 else a.tdiv b
section
variable {pb : Bool} {us : List Nat} {r : Int}
theorem RetBig.n (hr : Nm r pb us) {w w' : World} {e : Ending} (h : RetBig r w e w') : ∃ (A1 : Option Addr) (c1 : Nat), e = .returned (.agg #[.bool pb, .slice A1 us.length c1]) ∧ Arg w' A1 us us.length c1 ∧ Plus w w' := by
  obtain ⟨A1, c1, rfl, q1, q2, q3, q4⟩ := h
  have ha := hr.arg q1 q2 q3
  obtain ⟨rfl, rfl, _⟩ := hr
  exact ⟨A1, c1, rfl, ha, q4⟩
theorem RetBigX.n (hr : Nm r pb us) {er : Int} {w w' : World} {e : Ending} (h : RetBigX r er w e w') : ∃ (A1 : Option Addr) (c1 : Nat), e = .returned (.tuple #[.agg #[.bool pb, .slice A1 us.length c1], .int .i64 er]) ∧ Arg w' A1 us us.length c1 ∧ Plus w w' := by
  obtain ⟨A1, c1, rfl, q1, q2, q3, q4⟩ := h
  have ha := hr.arg q1 q2 q3
  obtain ⟨rfl, rfl, _⟩ := hr
  exact ⟨A1, c1, rfl, ha, q4⟩
theorem RetBigOk.n {s : Int} {ok : Bool} (hok : ok = decide (s.natAbs < B ^ 8)) (hs : r = if s.natAbs < B ^ 8 then s else 0) (hr : Nm r pb us) {w w' : World} {e : Ending} (h : RetBigOk s w e w') : ∃ (A1 : Option Addr) (c1 : Nat), e = .returned (.tuple #[.agg #[.bool pb, .slice A1 us.length c1], .bool ok]) ∧ Arg w' A1 us us.length c1 ∧ Plus w w' := by
  obtain ⟨A1, c1, m, o, rfl, p1, p2, q1, q2, q3, q4⟩ := h
  rw [← hs] at p2
  rw [← hok] at p1
  subst p1 p2
  have ha := hr.arg q1 q2 q3
  obtain ⟨rfl, rfl, _⟩ := hr
  exact ⟨A1, c1, rfl, ha, q4⟩
theorem of_n {z : Int} (hr : Hid (OfN z r pb us)) (w : World) : Calls Tryz.prog 51 #[.int .i64 z] w fun e w' => ∃ (A1 : Option Addr) (c1 : Nat), e = .returned (.agg #[.bool pb, .slice A1 us.length c1]) ∧ Arg w' A1 us us.length c1 ∧ Plus w w' := by
  obtain ⟨h1, rfl, h2, h3⟩ := hr.out
  exact (of_c z h2 h3 w).mono fun _ _ h => h.n h1
theorem neg_n {an : Bool} {A : Option Addr} {xs : List Nat} {n c : Nat} {a : Int} (hA : Hid (bigI an xs = a)) (hr : Hid (NegN a r pb us)) (w : World) (ha : Arg w A xs n c) : Calls Tryz.prog 110 #[.agg #[.bool an, .slice A n c]] w fun e w' => ∃ (A1 : Option Addr) (c1 : Nat), e = .returned (.agg #[.bool pb, .slice A1 us.length c1]) ∧ Arg w' A1 us us.length c1 ∧ Plus w w' := by
  obtain ⟨h1, rfl⟩ := hr.out
  have h := neg_c (an := an) w ha
  rw [hA.out] at h
  exact h.mono fun _ _ h => h.n h1
theorem same_n {an bn : Bool} {A C : Option Addr} {xs ys : List Nat} {n c m d : Nat} {a b : Int} (hA : Hid (bigI an xs = a)) (hB : Hid (bigI bn ys = b)) {v : Bool} (hr : Hid (decide (a = b) = v)) (w : World) (ha : Arg w A xs n c) (hb : Arg w C ys m d) : Calls Tryz.prog 67 #[.agg #[.bool an, .slice A n c], .agg #[.bool bn, .slice C m d]] w fun e w' => e = .returned (.bool v) ∧ Plus w w' := by
  have h := same_c (an := an) (bn := bn) w ha hb
  rw [hA.out, hB.out, hr.out] at h
  exact h
theorem cmp_n {an bn : Bool} {A C : Option Addr} {xs ys : List Nat} {n c m d : Nat} {a b : Int} (hA : Hid (bigI an xs = a)) (hB : Hid (bigI bn ys = b)) {v : Int} (hr : Hid (cmpZ a b = v)) (w : World) (ha : Arg w A xs n c) (hb : Arg w C ys m d) : Calls Tryz.prog 129 #[.agg #[.bool an, .slice A n c], .agg #[.bool bn, .slice C m d]] w fun e w' => e = .returned (.int .i64 v) ∧ Plus w w' := by
  have h := cmp_c (an := an) (bn := bn) w ha hb
  rw [hA.out, hB.out, hr.out] at h
  exact h
theorem text_n {an : Bool} {A : Option Addr} {xs : List Nat} {n c : Nat} {a : Int} (hA : Hid (bigI an xs = a)) {T : ByteArray} (hr : Hid ((⟨(txt a).toArray⟩ : ByteArray) = T)) (w : World) (ha : Arg w A xs n c) : Calls Tryz.prog 59 #[.agg #[.bool an, .slice A n c]] w fun e w' => e = .returned (.string T) ∧ Plus w w' := by
  have h := text_c (an := an) w ha
  rw [hA.out, hr.out] at h
  exact h
theorem may_n {an : Bool} {A : Option Addr} {xs : List Nat} {n c : Nat} {v : Bool} (hr : Hid (mayL an xs = v)) (w : World) (ha : Arg w A xs n c) : Calls Tryz.prog 176 #[.agg #[.bool an, .slice A n c]] w fun e w' => e = .returned (.bool v) ∧ Plus w w' := by
  have h := may_c an A xs n c w ha.lim ha.len (by have := ha.few; omega)
  rw [hr.out] at h
  exact h
end
end Go.Proofs.YtakahpbondaidaaGreatDoor.Bg
namespace Go.Proofs.YtakahpbondaidaaGreatDoor.Bg
open Go.RowKit


theorem toList_data (s : ByteArray) : s.toList = s.data.toList := ByteArray.toList_eq s
theorem byte_at (s : ByteArray) (k : Nat) (h : k < s.size) : s.data.toList[k]? = some s[k] := by
  rw [List.getElem?_eq_getElem (by simpa using h)]
  rfl
theorem all_take {l : List UInt8} {k : Nat} (h : k < l.length) (ha : (l.take k).all isD = true) (hd : isD l[k] = true) : (l.take (k + 1)).all isD = true := by
  rw [List.take_succ_eq_append_getElem h, List.all_append, ha]
  simp [hd]
theorem all_not {l : List UInt8} {k : Nat} (h : k < l.length) (hd : isD l[k] = false) : l.all isD = false := by
  rw [List.all_eq_false]
  exact ⟨_, List.getElem_mem h, by simp [hd]⟩

set_option maxRecDepth 100000 in
set_option maxHeartbeats 4000000 in
theorem isCount_c (s : ByteArray) (w : World) (hs : s.size ≤ 9223372036854775807) :
    Calls Tryz.prog 241 #[.string s] w fun e w' => e = .returned (.bool (isCnt s.data.toList)) ∧ w = w' := by
  have etl := toList_data s
  by_cases h0 : s.toList = []
  · have hc : isCnt s.data.toList = false := by rw [← etl, h0]; rfl
    have HC := Lib.hid hc
    clear hc etl
    go_enter Tryz.func241, Tryz.ntmps241
    go_wp2
    go_ret
    exact ⟨by rw [HC.out]; rfl, rfl⟩
  · have hz : 0 < s.size := by
      rcases Nat.eq_zero_or_pos s.size with h | h
      · exact absurd (by rw [etl]; exact List.eq_nil_of_length_eq_zero (by simpa using h)) h0
      · exact h
    have he : s.toList.isEmpty = false := by
      cases hl : s.toList with
      | nil => exact absurd hl h0
      | cons _ _ => rfl
    have hhead : s.data.toList.head? = some s[0] := by
      rw [List.head?_eq_getElem?, byte_at s 0 hz]
    by_cases hbad : s[0].toNat = 48 ∧ (s.toList == [48]) = false
    · obtain ⟨e1, e2⟩ := hbad
      have hc : isCnt s.data.toList = false := by
        have e3 : s[0] = 48 := UInt8.toNat_inj.1 e1
        unfold isCnt
        rw [hhead, e3, ← etl, e2]
        simp
      have HC := Lib.hid hc
      have b1 : ((s[0].toNat : Int) == 48) = true := by simp; omega
      have b2 : (s.toList != [48]) = true := by rw [bne, e2]; rfl
      clear hc etl hhead e1
      go_enter Tryz.func241, Tryz.ntmps241
      go_wp2
      go_ret
      exact ⟨by rw [HC.out]; rfl, rfl⟩
    · have hpre : (s.data.toList.head? != some 48 || s.data.toList == [48]) = true := by
        rw [hhead, ← etl]
        by_cases e2 : (s.toList == [48]) = true
        · rw [e2]; simp
        · have e1 : s[0].toNat ≠ 48 := fun e => hbad ⟨e, by simpa using e2⟩
          have : s[0] ≠ 48 := fun e => e1 (by rw [e]; rfl)
          simp [this]
      have hne : s.data.toList.isEmpty = false := by rw [← etl]; exact he
      have HPRE := Lib.hid hpre
      have HNE := Lib.hid hne
      have hb : ((s[0].toNat : Int) == 48) = false ∨ ((s[0].toNat : Int) == 48) = true ∧ (s.toList == [48]) = true := by
        by_cases e1 : s[0].toNat = 48
        · refine .inr ⟨by simp; omega, ?_⟩
          cases h : (s.toList == [48])
          · exact absurd ⟨e1, h⟩ hbad
          · rfl
        · exact .inl (by simp; omega)
      clear hpre hne hhead hbad etl
      rcases hb with b1 | ⟨b1, b2⟩
      all_goals
        go_enter Tryz.func241, Tryz.ntmps241
        go_wp2
        go_loop [17] (fun i => ∃ k : Nat, k ≤ s.size ∧ i = .int .i64 k ∧ Hid ((s.data.toList.take k).all isD = true)) (fun i => ((s.size : Int) - intOf i).toNat)
        case atStart => exact ⟨0, by omega, rfl, Lib.hid rfl⟩
        case round =>
          obtain ⟨k, hk, rfl, hA⟩ := hrel
          by_cases hlt : k < s.size
          · have hkl : k < s.data.toList.length := by simpa using hlt
            have hx : s.data.toList[k] = s[k] := rfl
            by_cases d1 : s[k].toNat < 48
            · have HC : Hid (isCnt s.data.toList = false) := Lib.hid (by unfold isCnt; rw [all_not hkl (by rw [hx]; simp [isD]; omega)]; simp)
              clear hx
              have t1 : decide ((s[k].toNat : Int) < 48) = true := by simp; omega
              go_wp2
              go_ret
              exact ⟨by rw [HC.out]; rfl, rfl⟩
            · by_cases d2 : 57 < s[k].toNat
              · have HC : Hid (isCnt s.data.toList = false) := Lib.hid (by unfold isCnt; rw [all_not hkl (by rw [hx]; simp [isD]; omega)]; simp)
                clear hx
                have t1 : decide ((s[k].toNat : Int) < 48) = false := by simp; omega
                have t2 : decide (57 < (s[k].toNat : Int)) = true := by simp; omega
                go_wp2
                go_ret
                exact ⟨by rw [HC.out]; rfl, rfl⟩
              · have HS : Hid ((s.data.toList.take (k + 1)).all isD = true) := Lib.hid (all_take hkl hA.out (by rw [hx]; simp [isD]; omega))
                clear hx
                have t1 : decide ((s[k].toNat : Int) < 48) = false := by simp; omega
                have t2 : decide (57 < (s[k].toNat : Int)) = false := by simp; omega
                go_wp2
                go_round
                case rel => exact ⟨k + 1, hlt, by rw [show ((k + 1 : Nat) : Int) = (k : Int) + 1 by omega], HS⟩
                case measure => simp [intOf]; omega
          · obtain rfl : k = s.size := by omega
            have HC : Hid (isCnt s.data.toList = true) := Lib.hid (by
              have e := hA.out
              rw [List.take_of_length_le (by simp)] at e
              unfold isCnt
              rw [e, HPRE.out, HNE.out]
              rfl)
            go_wp2
            go_ret
            exact ⟨by rw [HC.out]; rfl, rfl⟩
end Go.Proofs.YtakahpbondaidaaGreatDoor.Bg
namespace Go.Proofs.YtakahpbondaidaaGreatDoor.Bg
open Go.RowKit

section
variable {pb : Bool} {us : List Nat} {r : Int}
theorem num_take {l : List UInt8} {k : Nat} (h : k < l.length) : num (l.take (k + 1)) = 10 * num (l.take k) + (l[k].toNat - 48) := by
  rw [List.take_succ_eq_append_getElem h, num_snoc]
theorem num_take_le (l : List UInt8) (k : Nat) : num (l.take k) ≤ num l := by
  have h := num_ge (l.take k) (l.drop k)
  rw [List.take_append_drop] at h
  exact h
theorem isD_of {l : List UInt8} (h : l.all isD = true) {k : Nat} (hk : k < l.length) : 48 ≤ l[k].toNat ∧ l[k].toNat ≤ 57 := by
  have := List.all_eq_true.1 h _ (List.getElem_mem hk)
  simpa [isD] using this
theorem cnt_digits {l : List UInt8} (h : isCnt l = true) : l.all isD = true := by
  unfold isCnt at h
  simp only [Bool.and_eq_true] at h
  exact h.2
def ParRel (ds : List UInt8) (g : Nat) (w : World) (s27 : Value) (wr : World) : Prop :=
  ∃ (k : Nat) (os : List Nat), k ≤ ds.length ∧ s27 = .int .i64 k ∧ Own wr g os ∧ os.length = 8 ∧ val os = num (ds.take k) ∧ Below (w.heap.size + 1) (w.alloc (.cells #[.bool false, .slice none 0 0] 26)) wr

set_option maxRecDepth 100000 in
set_option maxHeartbeats 8000000 in
theorem parse_h (s D : ByteArray) (neg : Bool) (w : World) (hD : Hid (Lib.hasPrefix s.data.toList [45] = neg ∧ (Lib.trimPrefix s.data.toList [45]) = D.data.toList)) (hDs : D.size ≤ 9223372036854775807)
    (hcnt : Hid (isCnt D.data.toList = true)) (hz : Hid (neg = true → (D.toList == [48]) = false)) (R er : Int) (hlong : Hid (B ^ 8 ≤ num D.data.toList → R = 0 ∧ er = 3)) (hok : Hid (num D.data.toList < B ^ 8 → R = sgn neg (num D.data.toList) ∧ er = 0)) :
    Calls Tryz.prog 197 #[.string s] w (RetBigX R er w) := by
  have hmk : ∀ w, (Instr.makeSlice 24 (.int .i64 8) (.int .i64 8)).run Tryz.prog w = .ok (.slice (some ⟨w.heap.size, 0, none⟩) 8 8) (w.alloc (.cells #[.int .u32 0, .int .u32 0, .int .u32 0, .int .u32 0, .int .u32 0, .int .u32 0, .int .u32 0, .int .u32 0] 69)) := fun _ => by kernel_rfl
  have hcp : ∀ w : World, Calls Tryz.prog 194 #[.string s, .string ⟨#[45]⟩] w fun e w' => e = .returned (.tuple #[.string D, .bool neg]) ∧ w = w' := fun w => by
    refine (Tryz.strings_CutPrefix s ⟨#[45]⟩ w).mono ?_
    rintro e w1 ⟨rfl, rfl⟩
    have e1 : (⟨#[45]⟩ : ByteArray).data.toList = [45] := rfl
    rw [e1, hD.out.1, hD.out.2]
    exact ⟨rfl, rfl⟩
  have HCP := Lib.hid hcp
  clear hcp
  cases neg
  all_goals
    first | have h48 := hz.out rfl | skip
    go_enter Tryz.func197, Tryz.ntmps197
    go_wp2_with (first | (go_at_call 194; (with_reducible refine (HCP.out _).mono ?_); rintro e w1 ⟨rfl, rfl⟩) | (go_at_call 241; (with_reducible refine (isCount_c D _ hDs).mono ?_); rintro e w1 ⟨rfl, rfl⟩; rw [hcnt.out]))
    clear hmk
    first | clear h48 | skip
    have HST : Hid (Own ((w.alloc (.cells #[.bool false, .slice none 0 0] 26)).alloc (.cells #[.int .u32 0, .int .u32 0, .int .u32 0, .int .u32 0, .int .u32 0, .int .u32 0, .int .u32 0, .int .u32 0] 69)) (w.heap.size + 1) (List.replicate 8 0)) := Lib.hid (Own.zeros' _ _ 8 69 _ rfl (by rw [World.size_alloc]))
    go_loopw [27] (ParRel D.data.toList (w.heap.size + 1) w) (fun s27 _ => ((D.size : Int) - intOf s27).toNat)
    case atStart => exact ⟨0, _, by omega, rfl, HST.out, by simp, by rw [val_zeros]; rfl, (Below.refl _ _).alloc (by rw [World.size_alloc]; omega) _⟩
    case round =>
      obtain ⟨k, os, hk, rfl, hO, hol, hov, hB⟩ := hrel
      have hkD : k ≤ D.size := by simpa using hk
      obtain ⟨x, rfl⟩ := Plus.of_below (w := w.alloc (.cells #[.bool false, .slice none 0 0] 26)) (by rw [World.size_alloc]; exact hB)
      have HO := Lib.hid hO
      have HOL := Lib.hid hol
      have HOV := Lib.hid hov
      have HBB := Lib.hid hB
      clear hO hol hov hB
      by_cases hlt : k < D.size
      · have hkl : k < D.data.toList.length := by simpa using hlt
        obtain ⟨c1, c2⟩ := isD_of (cnt_digits hcnt.out) hkl
        have HNT := Lib.hid (num_take hkl)
        have hx : D.data.toList[k] = D[k] := rfl
        rw [hx] at c1 c2
        have HX := Lib.hid hx
        clear hx
        have c1' : (48 : Int) ≤ (D[k].toNat : Int) := by omega
        have c2' : (D[k].toNat : Int) ≤ 57 := by omega
        go_wp2_with fail
        refine (grow_i (w.heap.size + 1) os 8 8 10 (D[k].toNat - 48) _ _ _ HO.out HOL.out.symm rfl (by omega) (by decide) (by have := B_eq; omega) (by have := HOL.out; omega)).mono ?_
        rintro e w1 ⟨os2, cy, rfl, hO2, hv2, hl2, hc2, hg2⟩
        have hB2 := HBB.out.grown hg2 (by rw [size_plus, World.size_alloc]; omega) (fun j e => by injection e with e; omega)
        obtain ⟨x2, rfl⟩ := Plus.of_below (w := w.alloc (.cells #[.bool false, .slice none 0 0] 26)) (by rw [World.size_alloc]; exact hB2)
        have hv3 : val os2 + B ^ 8 * cy = num (D.data.toList.take (k + 1)) := by
          rw [HOL.out, HOV.out] at hv2
          rw [HNT.out, HX.out, hv2, Nat.mul_comm 10]
        have HO2 := Lib.hid hO2
        have HL2 : Hid (os2.length = 8) := Lib.hid (by rw [hl2, HOL.out])
        have HB2 := Lib.hid hB2
        clear hO2 hl2 hg2 hB2 hv2 hc2
        by_cases hcy : cy = 0
        · have HV3 : Hid (val os2 = num (D.data.toList.take (k + 1))) := Lib.hid (by rw [← hv3, hcy]; simp)
          have hb0 : ((cy : Int) != 0) = false := by simp [hcy]
          clear hv3 hcy
          go_wp2_with fail
          go_roundw
          case rel => exact ⟨k + 1, os2, hkl, by rw [show ((k + 1 : Nat) : Int) = (k : Int) + 1 by omega], HO2.out, HL2.out, HV3.out, HB2.out⟩
          case measure => simp [intOf]; omega
        · have hlong2 : B ^ 8 ≤ num D.data.toList := by
            have h1 := num_take_le D.data.toList (k + 1)
            have h2 : B ^ 8 ≤ B ^ 8 * cy := Nat.le_mul_of_pos_right _ (by omega)
            omega
          obtain ⟨hR0, hE0⟩ := hlong.out hlong2
          have HR0 := Lib.hid hR0
          have HE0 := Lib.hid hE0
          have hb0 : ((cy : Int) != 0) = true := by simp [hcy]
          clear hv3 hcy hlong2 hR0 hE0
          go_wp2_with fail
          go_returns
          rw [HR0.out, HE0.out]
          exact RetBigX.zero (by repeat' (first | exact Plus.refl _ | refine Plus.alloc ?_ _ | refine Plus.plus ?_ _ | refine Plus.drew ?_ | refine Plus.drewN ?_ _))
      · obtain rfl : k = D.size := by omega
        have hfull : num (D.data.toList.take D.size) = num D.data.toList := by rw [List.take_of_length_le (by simp)]
        have hlt8 : num D.data.toList < B ^ 8 := by
          rw [← hfull, ← HOV.out, ← HOL.out]
          exact val_lt HO.out.1
        obtain ⟨hR0, hE0⟩ := hok.out hlt8
        have HR0 := Lib.hid hR0
        have HE0 := Lib.hid hE0
        have HV : Hid (val os = num D.data.toList) := Lib.hid (by rw [HOV.out, hfull])
        clear hfull hlt8 hR0 hE0
        go_wp2_with fail
        refine (made_c _ _ os _ _ _ HO.out.toLim HOL.out.symm (by rw [HOL.out]; exact Nat.le_refl _) (by omega)).mono ?_
        rintro e w3 ⟨A3, c3, rfl, r1, r2, r3, ⟨x5, rfl⟩⟩
        rw [HV.out, ← HR0.out] at r1 r3 ⊢
        have R1 := Lib.hid r1
        have R3 := Lib.hid r3
        clear r1 r3
        go_wp2_with fail
        go_returns
        rw [HE0.out]
        refine ⟨A3, c3, rfl, R1.out, r2, R3.out.res2, ?_⟩
        repeat' (first | exact Plus.refl _ | refine Plus.alloc ?_ _ | refine Plus.plus ?_ _ | refine Plus.drew ?_ | refine Plus.drewN ?_ _)

set_option maxRecDepth 100000 in
set_option maxHeartbeats 8000000 in
theorem parse_no (s D : ByteArray) (neg : Bool) (w : World) (hD : Hid (Lib.hasPrefix s.data.toList [45] = neg ∧ (Lib.trimPrefix s.data.toList [45]) = D.data.toList)) (hDs : D.size ≤ 9223372036854775807)
    (hbad : isCnt D.data.toList = false ∨ isCnt D.data.toList = true ∧ neg = true ∧ (D.toList == [48]) = true) :
    Calls Tryz.prog 197 #[.string s] w (RetBigX 0 2 w) := by
  have hcp : ∀ w : World, Calls Tryz.prog 194 #[.string s, .string ⟨#[45]⟩] w fun e w' => e = .returned (.tuple #[.string D, .bool neg]) ∧ w = w' := fun w => by
    refine (Tryz.strings_CutPrefix s ⟨#[45]⟩ w).mono ?_
    rintro e w1 ⟨rfl, rfl⟩
    have e1 : (⟨#[45]⟩ : ByteArray).data.toList = [45] := rfl
    rw [e1, hD.out.1, hD.out.2]
    exact ⟨rfl, rfl⟩
  have HCP := Lib.hid hcp
  clear hcp
  rcases hbad with hc | ⟨hc, rfl, h48⟩
  all_goals
    have HC := Lib.hid hc
    clear hc
    go_enter Tryz.func197, Tryz.ntmps197
    go_wp2_with (first | (go_at_call 194; (with_reducible refine (HCP.out _).mono ?_); rintro e w1 ⟨rfl, rfl⟩) | (go_at_call 241; (with_reducible refine (isCount_c D _ hDs).mono ?_); rintro e w1 ⟨rfl, rfl⟩; rw [HC.out]))
    go_returns
    exact RetBigX.zero (by repeat' (first | exact Plus.refl _ | refine Plus.alloc ?_ _ | refine Plus.plus ?_ _ | refine Plus.drew ?_ | refine Plus.drewN ?_ _))

/-- The integer that a text is read as, and the error. -/
def parI (l : List UInt8) : Int := match rd l with | .is n => n | _ => 0
def parE (l : List UInt8) : Int := match rd l with | .form => 2 | .long => 3 | .is _ => 0
theorem parse_c (s : ByteArray) (w : World) (hs : s.size ≤ 9223372036854775807) :
    Calls Tryz.prog 197 #[.string s] w (RetBigX (parI s.data.toList) (parE s.data.toList) w) := by
  obtain ⟨neg, hneg⟩ : ∃ b, Lib.hasPrefix s.data.toList [45] = b := ⟨_, rfl⟩
  obtain ⟨d, hd⟩ : ∃ d, Lib.trimPrefix s.data.toList [45] = d := ⟨_, rfl⟩
  have hdl : d.length ≤ s.data.toList.length := by
    rw [← hd]
    unfold Lib.trimPrefix
    split
    · rw [List.length_drop]; omega
    · exact Nat.le_refl _
  have hrd : rd s.data.toList = if isCnt d = false ∨ (neg = true ∧ d = [48]) then .form else if B ^ 8 ≤ num d then .long else .is (sgn neg (num d)) := by
    have e1 : (s.data.toList.head? == some 45) = neg := by
      rw [← hneg]
      unfold Lib.hasPrefix
      cases s.data.toList with
      | nil => rfl
      | cons c l => simp only [List.head?_cons, List.isPrefixOf, Bool.and_true]; rw [Bool.eq_iff_iff]; simp; exact eq_comm
    have e2 : (if neg then s.data.toList.tail else s.data.toList) = d := by
      rw [← hd]
      unfold Lib.trimPrefix
      rw [hneg]
      cases neg
      · rfl
      · simp
    unfold rd
    simp only [e1, e2]
    rfl
  have hD : Hid (Lib.hasPrefix s.data.toList [45] = neg ∧ Lib.trimPrefix s.data.toList [45] = (⟨d.toArray⟩ : ByteArray).data.toList) := Lib.hid ⟨hneg, by rw [hd]⟩
  have hDs : (⟨d.toArray⟩ : ByteArray).size ≤ 9223372036854775807 := by
    have : (⟨d.toArray⟩ : ByteArray).size = d.length := by show d.toArray.size = _; simp
    have h2 : s.data.toList.length = s.size := by simp
    omega
  have etl : (⟨d.toArray⟩ : ByteArray).toList = d := toList_data _
  have edl : (⟨d.toArray⟩ : ByteArray).data.toList = d := rfl
  by_cases hbad : isCnt d = false ∨ (neg = true ∧ d = [48])
  · have e1 : parI s.data.toList = 0 := by unfold parI; rw [hrd, if_pos hbad]
    have e2 : parE s.data.toList = 2 := by unfold parE; rw [hrd, if_pos hbad]
    rw [e1, e2]
    refine parse_no s ⟨d.toArray⟩ neg w hD hDs ?_
    rw [edl, etl]
    cases hc : isCnt d
    · exact .inl rfl
    · rcases hbad with h | ⟨h1, h2⟩
      · rw [hc] at h; cases h
      · exact .inr ⟨rfl, h1, by rw [h2]; rfl⟩
  · refine parse_h s ⟨d.toArray⟩ neg w hD hDs (Lib.hid ?_) (Lib.hid ?_) _ _ (Lib.hid ?_) (Lib.hid ?_)
    · rw [edl]
      cases hc : isCnt d
      · exact absurd (.inl hc) hbad
      · rfl
    · rw [etl]
      intro hn
      cases hq : (d == [48])
      · rfl
      · exact absurd (.inr ⟨hn, by simpa using hq⟩) hbad
    · rw [edl]
      intro h
      unfold parI parE
      rw [hrd, if_neg hbad, if_pos h]
      exact ⟨rfl, rfl⟩
    · rw [edl]
      intro h
      unfold parI parE
      rw [hrd, if_neg hbad, if_neg (by omega)]
      exact ⟨rfl, rfl⟩
def ParN (r er : Int) (s : ByteArray) (pb : Bool) (us : List Nat) : Prop := Nm r pb us ∧ parI s.data.toList = r ∧ parE s.data.toList = er ∧ s.size ≤ 9223372036854775807
end
end Go.Proofs.YtakahpbondaidaaGreatDoor.Bg
