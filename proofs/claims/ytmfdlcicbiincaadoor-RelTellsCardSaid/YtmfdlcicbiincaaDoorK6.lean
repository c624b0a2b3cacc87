/- A relation in memory; Len, isEvent, Has. -/
import Derived.WalkKit
import Derived.WalkSpells
import Derived.WalkLawsBesides
import Derived.Handy
import Derived.Deep.RegionHeld3
import Derived.Deep.DeepCutAuto
import Derived.Deep.QuietTactic
import Derived.BigQuiet
import Derived.Lib.Hide
import Derived.KernelRfl
import Derived.WalkMore
import Derived.Deep.LoopGhost
import Derived.IntWalk
import Derived.Deep.RegionLaw
import Derived.RangeFuncBox
import Derived.Test.YtmfdlcicbiincaaDoorProg
import Derived.Test.YtmfdlcicbiincaaDoorK2
import Derived.Test.YtmfdlcicbiincaaDoorK3
import Derived.Test.YtmfdlcicbiincaaDoorE12
namespace Go.Proofs.YtmfdlcicbiincaaDoor
open Go.RowKit


/-- The rows as values. -/
def rvs (K : Nat) (hs : List Nat) : List Value := hs.map fun h => .slice (some ⟨h, 0, none⟩) K K
theorem rvs_len (K : Nat) (hs : List Nat) : (rvs K hs).length = hs.length := List.length_map _
theorem rvs_snoc (K : Nat) (hs : List Nat) (h : Nat) : rvs K (hs ++ [h]) = rvs K hs ++ [.slice (some ⟨h, 0, none⟩) K K] := by unfold rvs; rw [List.map_append]; rfl
/-- The relation at p: n rows of K words, in the blocks hs, from block B on. -/
structure Rl (w : World) (B p n K : Nat) (R : Nat → Nat → Bool) (hs : List Nat) : Prop where
  box : ∃ v, Boxed w p 69 v ∧ w.ownsRow B 72 1 v n (rvs K hs)
  len : hs.length = n
  nd : hs.Nodup
  low : ∀ h ∈ hs, B ≤ h
  plow : B ≤ p
  rows : ∀ a, a < n → Rw w (hs.getD a 0) K (R a)
/-- What a relation lies in is as it was. -/
structure KR (w w' : World) : Prop where
  size : w.heap.size ≤ w'.heap.size
  same : ∀ (k : Nat) (cur : Array Value) (e : TypeId) (z : Nat × Nat), w.heap[k]? = some (.cells cur e z) → (e == 69 || e == 72 || e == 95) = true → w'.heap[k]? = some (.cells cur e z)
section
variable {w w' : World} {B p n K : Nat} {R : Nat → Nat → Bool} {hs : List Nat}
theorem KR.refl (w : World) : KR w w := ⟨Nat.le_refl _, fun _ _ _ _ h _ => h⟩
theorem KR.trans {w2 : World} (h : KR w w') (k : KR w' w2) : KR w w2 := ⟨Nat.le_trans h.size k.size, fun i c e z hi he => k.same i c e z (h.same i c e z hi he) he⟩
theorem KR.plus (h : Plus w w') : KR w w' := ⟨h.below.size, fun k _ _ _ hk _ => (h.below.block k (Array.getElem?_eq_some_iff.1 hk).1).trans hk⟩
theorem KR.grown {row : Option Nat} (hg : w.grownBy w' row) (hr : ∀ r cur e z, row = some r → w.heap[r]? = some (.cells cur e z) → (e == 69 || e == 72 || e == 95) = false) : KR w w' :=
  ⟨hg.size, fun k cur e z hk he => (hg.block k (Array.getElem?_eq_some_iff.1 hk).1 (fun q => by rw [hr k cur e z q.symm hk] at he; cases he)).trans hk⟩
theorem Rw.kr {h : Nat} {s : Nat → Bool} (H : Rw w h K s) (hk : KR w w') : Rw w' h K s := by
  obtain ⟨cur, hh, q⟩ := H
  exact ⟨cur, hk.same h cur 95 _ hh rfl, q⟩
theorem ownRow_kr {v : Value} {l : List Value} (h : w.ownsRow B 72 1 v n l) (hk : KR w w') : w'.ownsRow B 72 1 v n l := by
  refine ⟨h.1, ?_⟩
  rcases h.2 with q | ⟨g, cap, cur, q1, q2, q3, q4⟩
  · exact .inl q
  · exact .inr ⟨g, cap, cur, q1, q2, hk.same g cur 72 _ q3 rfl, q4⟩
theorem Rl.kr (H : Rl w B p n K R hs) (hk : KR w w') : Rl w' B p n K R hs := by
  obtain ⟨⟨v, hb, hr⟩, q1, q2, q3, q4, q5⟩ := H
  exact ⟨⟨v, hk.same p _ 69 _ hb rfl, ownRow_kr hr hk⟩, q1, q2, q3, q4, fun a ha => (q5 a ha).kr hk⟩
theorem Rl.plus (H : Rl w B p n K R hs) (hp : Plus w w') : Rl w' B p n K R hs := H.kr (.plus hp)
theorem Rl.below {C : Nat} (H : Rl w B p n K R hs) (hb : Below C w w') (hC : w.heap.size ≤ C) : Rl w' B p n K R hs := H.kr ⟨hb.size, fun k _ _ _ hk _ => (hb.block k (by have := (Array.getElem?_eq_some_iff.1 hk).1; omega)).trans hk⟩
theorem Rl.ext {R2 : Nat → Nat → Bool} (H : Rl w B p n K R hs) (he : ∀ a b, a < n → b < 64 * K → R a b = R2 a b) : Rl w B p n K R2 hs := ⟨H.box, H.len, H.nd, H.low, H.plow, fun a ha => (H.rows a ha).ext fun j hj => he a j ha hj⟩
theorem Rl.base {B2 : Nat} (H : Rl w B p n K R hs) (hb : B2 ≤ B) : Rl w B2 p n K R hs := by
  obtain ⟨⟨v, hx, hr⟩, q1, q2, q3, q4, q5⟩ := H
  exact ⟨⟨v, hx, own_base hr hb⟩, q1, q2, fun h hh => Nat.le_trans hb (q3 h hh), Nat.le_trans hb q4, q5⟩
/-- Its rows' own row. -/
theorem Rl.form (H : Rl w B p n K R hs) : ∃ A c, Boxed w p 69 (.slice A n c) := by
  obtain ⟨v, hb, hr⟩ := H.box
  obtain ⟨D, c, rfl⟩ := own_form hr
  exact ⟨D, c, hb⟩
theorem Rl.at_ (H : Rl w B p n K R hs) {a : Nat} (ha : a < n) : ∃ g c h, Hid (h = hs.getD a 0) ∧ Boxed w p 69 (.slice (some ⟨g, 0, none⟩) n c) ∧ n ≤ c ∧ g < w.heap.size ∧ w.cell? ⟨g, a, none⟩ = some (.slice (some ⟨h, 0, none⟩) K K) ∧ w.frozen? ⟨g, a, none⟩ = false ∧ Rw w h K (R a) := by
  obtain ⟨v, hb, hr⟩ := H.box
  have hrow := H.rows a ha
  rcases hr.2 with ⟨rfl, h0⟩ | ⟨g, cap, cur, rfl, hbg, hg, hl, hm, hs', ht⟩
  · omega
  · refine ⟨g, cap, _, Lib.hid rfl, hb, hl, (Array.getElem?_eq_some_iff.1 hg).1, ?_, by simp [World.frozen?, hg], hrow⟩
    rw [cell_of_row w g a cur 72 (0, 0) hg]
    have e1 : cur[a]? = cur.toList[a]? := by simp
    have e2 : (cur.toList.take (n * 1))[a]? = cur.toList[a]? := by rw [List.getElem?_take, if_pos (by omega)]
    rw [e1, ← e2, ht]
    unfold rvs
    have hal : a < hs.length := by rw [H.len]; exact ha
    rw [List.getElem?_map, List.getElem?_eq_getElem hal, List.getD_eq_getElem?_getD, List.getElem?_eq_getElem hal]
    rfl
def adds (R : Nat → Nat → Bool) (a b : Nat) : Nat → Nat → Bool := fun x y => R x y || (x == a && y == b)
theorem getD_inj {hs : List Nat} (h : hs.Nodup) {a b : Nat} (ha : a < hs.length) (hb : b < hs.length) (e : hs.getD a 0 = hs.getD b 0) : a = b := by
  rw [List.getD_eq_getElem?_getD, List.getD_eq_getElem?_getD, List.getElem?_eq_getElem ha, List.getElem?_eq_getElem hb] at e
  exact (List.getElem_inj h).1 e
/-- A bit set. -/
theorem Rl.setBit (H : Rl w B p n K R hs) {a b h : Nat} (ha : a < n) (hh : h = hs.getD a 0) : Rl (w.setCell ⟨h, b / 64, none⟩ (.int .u64 (W64 (wth (R a) b) (b / 64) : Nat))) B p n K (adds R a b) hs := by
  subst hh
  have hr := H.rows a ha
  have hq := hr
  obtain ⟨cur, hcur, _⟩ := hq
  obtain ⟨⟨v, hb, ho⟩, q1, q2, q3, q4, q5⟩ := H
  refine ⟨⟨v, ?_, own_set ho hcur (by decide)⟩, q1, q2, q3, q4, fun x hx => ?_⟩
  · unfold Boxed at hb ⊢
    have hne : hs.getD a 0 ≠ p := fun e => by
      rw [e] at hcur
      rw [hcur] at hb
      injection hb with hb
      injection hb with _ hb _
      exact absurd hb (by decide)
    simp only [World.setCell, Array.getElem?_modify, if_neg hne]
    exact hb
  · by_cases he : x = a
    · subst he
      have q : adds R x b x = wth (R x) b := by funext y; simp [adds, wth]
      rw [q]
      exact hr.set rfl (fun j hj => W64_other _ hj)
    · have q : adds R a b x = R x := by funext y; simp [adds, he]
      rw [q]
      exact (q5 x hx).other (fun e => he (getD_inj q2 (by omega) (by omega) e.symm))
end
set_option maxRecDepth 100000 in
set_option maxHeartbeats 4000000 in
theorem len_c {p n : Nat} {A : Option Addr} {c : Nat} (w : World) (H : Boxed w p 69 (.slice A n c)) : Calls Tryd.prog 42 #[.pointer (some ⟨p, 0, none⟩)] w fun e w' => e = .returned (.int .i64 n) ∧ w' = w := by
  have h1 := H.cell
  have h2 := H.lt
  go_enter Tryd.func42, Tryd.ntmps42
  go_wp2
  go_returns
  exact ⟨rfl, rfl⟩
theorem len_r {B p n K : Nat} {R : Nat → Nat → Bool} {hs : List Nat} (w : World) (H : Rl w B p n K R hs) : Calls Tryd.prog 42 #[.pointer (some ⟨p, 0, none⟩)] w fun e w' => e = .returned (.int .i64 n) ∧ w' = w := by
  obtain ⟨A, c, h⟩ := H.form
  exact len_c w h
def isE (n : Nat) (a : Int) : Bool := decide (0 ≤ a ∧ a < n)
set_option maxRecDepth 100000 in
set_option maxHeartbeats 4000000 in
theorem isE_c {B p n K : Nat} {R : Nat → Nat → Bool} {hs : List Nat} {a : Int} {r : Bool} (w : World) (H : Rl w B p n K R hs) (hr : Hid (isE n a = r)) : Calls Tryd.prog 59 #[.pointer (some ⟨p, 0, none⟩), .int .i64 a] w fun e w' => e = .returned (.bool r) ∧ w' = w := by
  have hl := fun w' (hk : w' = w) => len_r w' (hk ▸ H)
  by_cases h0 : 0 ≤ a
  · go_enter Tryd.func59, Tryd.ntmps59
    go_wp2_with (go_at_call 42; refine (hl _ rfl).mono ?_; rintro e w' ⟨rfl, hw'⟩; rw [hw']; clear hw' w')
    go_returns
    refine ⟨?_, rfl⟩
    rw [← hr.out]
    simp [isE, h0]
  · go_enter Tryd.func59, Tryd.ntmps59
    go_wp2
    go_returns
    refine ⟨?_, rfl⟩
    rw [← hr.out]
    simp [isE]
    omega
def hasR (n : Nat) (R : Nat → Nat → Bool) (a b : Int) : Bool := isE n a && (isE n b && R a.toNat b.toNat)
set_option maxRecDepth 100000 in
set_option maxHeartbeats 4000000 in
theorem has_f1 {B p n K : Nat} {R : Nat → Nat → Bool} {hs : List Nat} {a b : Int} (w : World) (H : Rl w B p n K R hs) (h1 : Hid (isE n a = false)) : Calls Tryd.prog 21 #[.pointer (some ⟨p, 0, none⟩), .int .i64 a, .int .i64 b] w fun e w' => e = .returned (.bool false) ∧ w' = w := by
  have hl := fun w' (hk : w' = w) => isE_c w' (hk ▸ H) h1
  go_enter Tryd.func21, Tryd.ntmps21
  go_wp2_with (go_at_call 59; refine (hl _ rfl).mono ?_; rintro e w' ⟨rfl, hw'⟩; rw [hw']; clear hw' w')
  go_returns
  exact ⟨rfl, rfl⟩
set_option maxRecDepth 100000 in
set_option maxHeartbeats 4000000 in
theorem has_f2 {B p n K : Nat} {R : Nat → Nat → Bool} {hs : List Nat} {a b : Int} (w : World) (H : Rl w B p n K R hs) (h1 : Hid (isE n a = true)) (h2 : Hid (isE n b = false)) : Calls Tryd.prog 21 #[.pointer (some ⟨p, 0, none⟩), .int .i64 a, .int .i64 b] w fun e w' => e = .returned (.bool false) ∧ w' = w := by
  have hl := fun w' (hk : w' = w) => isE_c w' (hk ▸ H) h1
  have hl2 := fun w' (hk : w' = w) => isE_c w' (hk ▸ H) h2
  go_enter Tryd.func21, Tryd.ntmps21
  go_wp2_with (first | (go_at_call_of 59 (Value.int .i64 a); with_reducible refine (hl _ rfl).mono ?_; rintro e w' ⟨rfl, hw'⟩; rw [hw']; clear hw' w') | (go_at_call 59; with_reducible refine (hl2 _ rfl).mono ?_; rintro e w' ⟨rfl, hw'⟩; rw [hw']; clear hw' w'))
  go_returns
  exact ⟨rfl, rfl⟩
set_option maxRecDepth 100000 in
set_option maxHeartbeats 4000000 in
theorem has_t {B p n K : Nat} {R : Nat → Nat → Bool} {hs : List Nat} {a b : Nat} {r : Bool} (w : World) (H : Rl w B p n K R hs) (hn : n ≤ 64 * K) (hK : K ≤ 100000) (ha : a < n) (hb : b < n) (hr : R a b = r) : Calls Tryd.prog 21 #[.pointer (some ⟨p, 0, none⟩), .int .i64 a, .int .i64 b] w fun e w' => e = .returned (.bool r) ∧ w' = w := by
  obtain ⟨g, c, h, _, hb0, hc0, hg0, hcl, _, hrow⟩ := H.at_ ha
  have hbc := hb0.cell
  have hbl := hb0.lt
  have hac : (a : Int) < n := by omega
  have h1 := fun w' (hk : w' = w) => isE_c (r := true) w' (hk ▸ H) (Lib.hid (show isE n (a : Nat) = true by simp [isE]; omega))
  have h2 := fun w' (hk : w' = w) => isE_c (r := true) w' (hk ▸ H) (Lib.hid (show isE n (b : Nat) = true by simp [isE]; omega))
  have h3 := fun w' (hk : w' = w) => has_c w' (hk ▸ hrow) (b := b) (by omega) hK (Nat.le_refl _)
  clear hrow hb0
  subst hr
  go_enter Tryd.func21, Tryd.ntmps21
  go_wp2_with (first | (go_at_call 59; with_reducible refine (h1 _ rfl).mono ?_; rintro e w' ⟨rfl, hw'⟩; rw [hw']; clear hw' w') | (go_at_call 59; with_reducible refine (h2 _ rfl).mono ?_; rintro e w' ⟨rfl, hw'⟩; rw [hw']; clear hw' w') | (go_at_call 60; with_reducible refine (h3 _ rfl).mono ?_; rintro e w' ⟨rfl, hw'⟩; rw [hw']; clear hw' w'))
  go_returns
  exact ⟨rfl, rfl⟩
theorem has_r {B p n K : Nat} {R : Nat → Nat → Bool} {hs : List Nat} {a b : Int} {r : Bool} (w : World) (H : Rl w B p n K R hs) (hn : n ≤ 64 * K) (hK : K ≤ 100000) (hr : hasR n R a b = r) : Calls Tryd.prog 21 #[.pointer (some ⟨p, 0, none⟩), .int .i64 a, .int .i64 b] w fun e w' => e = .returned (.bool r) ∧ w' = w := by
  subst hr
  unfold hasR
  cases h1 : isE n a
  · exact has_f1 w H (Lib.hid h1)
  cases h2 : isE n b
  · exact has_f2 w H (Lib.hid h1) (Lib.hid h2)
  simp only [isE, decide_eq_true_eq] at h1 h2
  obtain ⟨x, rfl⟩ := Int.eq_ofNat_of_zero_le h1.1
  obtain ⟨y, rfl⟩ := Int.eq_ofNat_of_zero_le h2.1
  exact has_t w H hn hK (by omega) (by omega) rfl
end Go.Proofs.YtmfdlcicbiincaaDoor
