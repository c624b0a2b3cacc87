/- writesAt, cannotTear; package model, plainly. -/
import Derived.WalkKit
import Derived.WalkSpells
import Derived.WalkLawsBesides
import Derived.Handy
import Derived.Deep.RegionHeld3
import Derived.Deep.DeepCutAuto
import Derived.Deep.QuietTactic
import Derived.BigQuiet
import Derived.Lib.Hide
import Derived.KernelRfl
import Derived.WalkMore
import Derived.Deep.LoopGhost
import Derived.IntWalk
import Derived.Test.YtmfdlcicbiincaaDoorE14
import Derived.Test.YtmfdlcicbiincaaDoorK18
import Derived.Test.YtmfdlcicbiincaaDoorL5m
namespace Go.Proofs.YtmfdlcicbiincaaDoor

section
open Go.RowKit


def wrB (k b a z blk x : Int) : Bool := writesM k && (b == blk && (decide (a ≤ x) && decide (x < a + z)))
set_option maxRecDepth 100000 in
set_option maxHeartbeats 4000000 in
theorem wrAt_c {g k b a z : Int} {s t : Bool} {R W F : Option Addr} {nr cr nw cw nf cf : Nat} {blk x : Int} {c : Bool} (hk : Hid (writesM k = c)) (w : World) (h1 : -9223372036854775808 ≤ a + z) (h2 : a + z ≤ 9223372036854775807) : Calls Tryd.prog 62 #[Value.agg #[.int .i64 g, .int .i64 k, .bool s, .bool t, .int .i64 b, .int .i64 a, .int .i64 z, .slice R nr cr, .slice W nw cw, .slice F nf cf], .int .i64 blk, .int .i64 x] w fun e w' => e = .returned (.bool (c && (b == blk && (decide (a ≤ x) && decide (x < a + z))))) ∧ Plus w w' := by
  cases c
  all_goals
   go_enter Tryd.func62, Tryd.ntmps62
   go_wp2_with (go_at_call 68; (with_reducible refine (writes_n hk _).mono ?_); rintro e w1 ⟨rfl, ⟨y, rfl⟩⟩)
  all_goals go_returns
  all_goals exact ⟨ret_bool (by simp_all <;> omega), (by repeat' (first | exact Plus.refl _ | refine Plus.alloc ?_ _ | refine Plus.plus ?_ _ | refine Plus.drew ?_ | refine Plus.drewN ?_ _))⟩
theorem wrAt_n {g k b a z : Int} {s t : Bool} {R W F : Option Addr} {nr cr nw cw nf cf : Nat} {blk x : Int} {c : Bool} (hc : Hid (wrB k b a z blk x = c)) (w : World) (h1 : -9223372036854775808 ≤ a + z) (h2 : a + z ≤ 9223372036854775807) : Calls Tryd.prog 62 #[Value.agg #[.int .i64 g, .int .i64 k, .bool s, .bool t, .int .i64 b, .int .i64 a, .int .i64 z, .slice R nr cr, .slice W nw cw, .slice F nf cf], .int .i64 blk, .int .i64 x] w fun e w' => e = .returned (.bool c) ∧ Plus w w' := by
  rw [← hc.out]
  exact wrAt_c (Lib.hid rfl) w h1 h2
def canM (t : Bool) (k b a z k2 b2 a2 z2 : Int) : Bool := t && equalM k b a z k2 b2 a2 z2
set_option maxRecDepth 100000 in
set_option maxHeartbeats 4000000 in
theorem cant_n {g k b a z : Int} {s t : Bool} {R W F : Option Addr} {nr cr nw cw nf cf : Nat} {g2 k2 b2 a2 z2 : Int} {s2 t2 : Bool} {R2 W2 F2 : Option Addr} {nr2 cr2 nw2 cw2 nf2 cf2 : Nat} {c : Bool} (hc : Hid (canM t k b a z k2 b2 a2 z2 = c)) (w : World) : Calls Tryd.prog 64 #[Value.agg #[.int .i64 g, .int .i64 k, .bool s, .bool t, .int .i64 b, .int .i64 a, .int .i64 z, .slice R nr cr, .slice W nw cw, .slice F nf cf], Value.agg #[.int .i64 g2, .int .i64 k2, .bool s2, .bool t2, .int .i64 b2, .int .i64 a2, .int .i64 z2, .slice R2 nr2 cr2, .slice W2 nw2 cw2, .slice F2 nf2 cf2]] w fun e w' => e = .returned (.bool c) ∧ Plus w w' := by
  rw [← hc.out]
  cases t
  all_goals
   go_enter Tryd.func64, Tryd.ntmps64
   go_wp2_with (go_at_call 22; (with_reducible refine (equal_n (Lib.hid rfl) _).mono ?_); rintro e w1 ⟨rfl, ⟨y, rfl⟩⟩)
  all_goals go_returns
  all_goals exact ⟨ret_bool (by simp [canM]), (by repeat' (first | exact Plus.refl _ | refine Plus.alloc ?_ _ | refine Plus.plus ?_ _ | refine Plus.drew ?_ | refine Plus.drewN ?_ _))⟩
end

section
open Go.RowKit


/-- The first of n of which P holds, or none. -/
def Fst (n : Nat) (P : Nat → Prop) (z : Int) : Prop := (z = -1 ∧ ∀ r, r < n → ¬ P r) ∨ ∃ r : Nat, r < n ∧ z = (r : Int) ∧ P r ∧ ∀ q, q < r → ¬ P q
section
variable {n : Nat} {P : Nat → Prop} {z y : Int}
theorem Fst.hit (h : Fst n P z) {r : Nat} (hr : r < n) (hp : P r) (hq : ∀ q, q < r → ¬ P q) : z = (r : Int) := by
  rcases h with ⟨_, h2⟩ | ⟨r2, h1, h2, h3, h4⟩
  · exact absurd hp (h2 r hr)
  · rcases Nat.lt_trichotomy r r2 with k | k | k
    · exact absurd hp (h4 r k)
    · rw [h2, k]
    · exact absurd h3 (hq r2 k)
theorem Fst.no (h : Fst n P z) (hq : ∀ q, q < n → ¬ P q) : z = -1 := by
  rcases h with ⟨h1, _⟩ | ⟨r2, h1, h2, h3, h4⟩
  · exact h1
  · exact absurd h3 (hq r2 h1)
theorem Fst.one (h : Fst n P z) (k : Fst n P y) : z = y := by
  rcases k with ⟨h1, h2⟩ | ⟨r2, h1, h2, h3, h4⟩
  · rw [h.no h2, h1]
  · rw [h.hit h1 h3 h4, h2]
theorem Fst.none (h : Fst n P z) : z = -1 ↔ ∀ r, r < n → ¬ P r := by
  constructor
  · intro e
    rcases h with ⟨_, h2⟩ | ⟨r2, h1, h2, h3, h4⟩
    · exact h2
    · exact absurd (h2.symm.trans e) (by omega)
  · exact h.no
theorem Fst.range (h : Fst n P z) : -1 ≤ z ∧ z < n := by
  rcases h with ⟨h1, _⟩ | ⟨r2, h1, h2, h3, h4⟩ <;> omega
theorem Fst.ex (n : Nat) (P : Nat → Prop) : ∃ z, Fst n P z := by
  induction n with
  | zero => exact ⟨-1, .inl ⟨rfl, fun r h => absurd h (by omega)⟩⟩
  | succ n ih =>
    obtain ⟨z, h⟩ := ih
    rcases h with ⟨h1, h2⟩ | ⟨r2, h1, h2, h3, h4⟩
    · by_cases hp : P n
      · exact ⟨n, .inr ⟨n, by omega, rfl, hp, h2⟩⟩
      · refine ⟨-1, .inl ⟨rfl, fun r hr => ?_⟩⟩
        by_cases e : r = n
        · rw [e]; exact hp
        · exact h2 r (by omega)
    · exact ⟨z, .inr ⟨r2, by omega, h2, h3, h4⟩⟩
theorem Fst.congr {Q : Nat → Prop} (h : Fst n P z) (he : ∀ r, r < n → (P r ↔ Q r)) : Fst n Q z := by
  rcases h with ⟨h1, h2⟩ | ⟨r2, h1, h2, h3, h4⟩
  · exact .inl ⟨h1, fun r hr => fun q => h2 r hr ((he r hr).2 q)⟩
  · exact .inr ⟨r2, h1, h2, (he r2 h1).1 h3, fun q hq k => h4 q hq ((he q (by omega)).2 k)⟩
end
/-- What an event reads its i-th byte from. -/
def frA (l : List Ev) (r i : Nat) : Int := (l.getD r default).f.getD i 0
def wrAt (e : Ev) (blk x : Int) : Bool := wrB e.k e.b e.a e.z blk x
/-- v has written over what r reads from w. -/
def CovP (l : List Ev) (B : Nat → Nat → Bool) (r i v : Nat) : Prop := frA l r i < v ∧ wrAt (l.getD v default) (l.getD r default).b ((l.getD r default).a + i) = true ∧ B v r = true ∧ (frA l r i = -1 ∨ B (frA l r i).toNat v = true)
def CoiP (l : List Ev) (B : Nat → Nat → Bool) (r i : Nat) : Prop := ∃ v, v < r ∧ CovP l B r i v
def CohP (l : List Ev) (B : Nat → Nat → Bool) (r : Nat) : Prop := ∃ i, i < (l.getD r default).f.length ∧ CoiP l B r i
def eqE (x y : Ev) : Bool := equalM x.k x.b x.a x.z y.k y.b y.a y.z
def cantB (x y : Ev) : Bool := x.t && eqE x y
/-- What r must see as a whole. -/
def WhoP (l : List Ev) (r : Nat) (x : Int) : Prop := x ≠ -1 ∧ cantB (l.getD x.toNat default) (l.getD r default) = true
def TearP (l : List Ev) (r : Nat) : Prop := (l.getD r default).t = true ∧ ∃ i j, i < (l.getD r default).f.length ∧ j < (l.getD r default).f.length ∧ WhoP l r (frA l r i) ∧ WhoP l r (frA l r j) ∧ frA l r i ≠ frA l r j
/-- Each of n numbers once. -/
def PerP (n : Nat) (os : List Int) : Prop := os.length = n ∧ (∀ i, i < n → 0 ≤ os.getD i 0 ∧ os.getD i 0 < n) ∧ ∀ i j, i < j → j < n → os.getD i 0 ≠ os.getD j 0
/-- No pair is turned round. -/
def KeepP (n : Nat) (B : Nat → Nat → Bool) (os : List Int) : Prop := ∀ i j, i < j → j < n → B (os.getD j 0).toNat (os.getD i 0).toNat = false
def OrdP (n : Nat) (B : Nat → Nat → Bool) (os : List Int) : Prop := PerP n os ∧ KeepP n B os
/-- Where each stands. -/
def PlcP (n : Nat) (os P : List Int) : Prop := P.length = n ∧ ∀ i, i < n → P.getD (os.getD i 0).toNat 0 = (i : Int)
theorem pigeon : ∀ (n : Nat) (f : Nat → Nat), (∀ i, i < n → f i < n) → (∀ i j, i < n → j < n → f i = f j → i = j) → ∀ b, b < n → ∃ i, i < n ∧ f i = b
  | 0, _, _, _, b, hb => absurd hb (by omega)
  | n + 1, f, h1, h2, b, hb => by
    have hv := h1 n (by omega)
    have ih := pigeon n (fun i => if f i = n then f n else f i) (fun i hi => by
      show (if f i = n then f n else f i) < n
      split
      · rename_i e
        have : f n ≠ n := fun q => by
          have := h2 i n (by omega) (by omega) (e.trans q.symm)
          omega
        omega
      · have := h1 i (by omega)
        omega) (fun i j hi hj e => by
      try dsimp only at e
      split at e <;> split at e
      · rename_i a b; exact h2 i j (by omega) (by omega) (a.trans b.symm)
      · have := h2 n j (by omega) (by omega) e; omega
      · have := h2 i n (by omega) (by omega) e; omega
      · exact h2 i j (by omega) (by omega) e)
    by_cases e1 : b = f n
    · exact ⟨n, by omega, e1.symm⟩
    · by_cases e2 : b = n
      · have hvn : f n < n := by omega
        obtain ⟨i, hi, e⟩ := ih (f n) hvn
        try dsimp only at e
        split at e
        · rename_i q; exact ⟨i, by omega, q.trans e2.symm⟩
        · have := h2 i n (by omega) (by omega) e; omega
      · obtain ⟨i, hi, e⟩ := ih b (by omega)
        try dsimp only at e
        split at e
        · exact absurd e.symm e1
        · exact ⟨i, by omega, e⟩
theorem PerP.all {n : Nat} {os : List Int} (h : PerP n os) {b : Nat} (hb : b < n) : ∃ i, i < n ∧ os.getD i 0 = (b : Int) := by
  obtain ⟨i, hi, e⟩ := pigeon n (fun i => (os.getD i 0).toNat) (fun i hi => by have := h.2.1 i hi; omega) (fun i j hi hj e => by
    have q1 := h.2.1 i hi
    have q2 := h.2.1 j hj
    have e2 : os.getD i 0 = os.getD j 0 := by
      try dsimp only at e
      omega
    rcases Nat.lt_trichotomy i j with k | k | k
    · exact absurd e2 (h.2.2 i j k hj)
    · exact k
    · exact absurd e2.symm (h.2.2 j i k hi)) b hb
  refine ⟨i, hi, ?_⟩
  have q1 := h.2.1 i hi
  try dsimp only at e
  omega
theorem PlcP.at_ {n : Nat} {os P : List Int} (h : PlcP n os P) (hp : PerP n os) {b : Nat} (hb : b < n) : ∃ i : Nat, i < n ∧ P.getD b 0 = (i : Int) ∧ os.getD i 0 = (b : Int) := by
  obtain ⟨i, hi, e⟩ := hp.all hb
  have q := h.2 i hi
  rw [e] at q
  exact ⟨i, hi, by simpa using q, e⟩
theorem keep_iff {n : Nat} {B : Nat → Nat → Bool} {os P : List Int} (hp : PerP n os) (h : PlcP n os P) : KeepP n B os ↔ ∀ a b, a < n → b < n → B a b = true → P.getD a 0 ≤ P.getD b 0 := by
  constructor
  · intro k a b ha hb hB
    obtain ⟨i, hi, e1, e2⟩ := h.at_ hp ha
    obtain ⟨j, hj, f1, f2⟩ := h.at_ hp hb
    rw [e1, f1]
    by_cases hlt : j < i
    · have q := k j i hlt hi
      rw [e2, f2] at q
      simp only [Int.toNat_natCast] at q
      rw [hB] at q
      cases q
    · omega
  · intro k i j hij hj
    cases hB : B (os.getD j 0).toNat (os.getD i 0).toNat
    · rfl
    · have q1 := hp.2.1 j hj
      have q2 := hp.2.1 i (by omega)
      have q := k _ _ (by omega) (by omega) hB
      rw [h.2 j hj, h.2 i (by omega)] at q
      omega
/-- v has written between w and r in the order. -/
def AtvP (l : List Ev) (S B : Nat → Nat → Bool) (r w v : Nat) : Prop := writesM (l.getD v default).k = true ∧ (l.getD v default).s = true ∧ ((S w r = true ∧ eqE (l.getD v default) (l.getD r default) = true) ∨ (B v r = true ∧ (l.getD w default).s = true ∧ eqE (l.getD w default) (l.getD v default) = true) ∨ (B w v = true ∧ (l.getD r default).s = true ∧ eqE (l.getD v default) (l.getD r default) = true))
/-- Between the places p and q. -/
def AtbP (l : List Ev) (S B : Nat → Nat → Bool) (os : List Int) (r w p q : Nat) : Prop := ∃ k, p < k ∧ k < q ∧ AtvP l S B r w (os.getD k 0).toNat
def AtiP (l : List Ev) (S B : Nat → Nat → Bool) (os : List Int) (n r i : Nat) : Prop := ∃ w p q : Nat, p < n ∧ q < n ∧ frA l r i = (w : Int) ∧ B w r = true ∧ os.getD p 0 = (w : Int) ∧ os.getD q 0 = (r : Int) ∧ AtbP l S B os r w p q
def AtoP (l : List Ev) (S B : Nat → Nat → Bool) (os : List Int) (n r : Nat) : Prop := ∃ i, i < (l.getD r default).f.length ∧ AtiP l S B os n r i
/-- As they stand. -/
def natL (n : Nat) : List Int := (List.range n).map Int.ofNat
theorem natL_len (n : Nat) : (natL n).length = n := by unfold natL; rw [List.length_map, List.length_range]
theorem natL_at {n i : Nat} (h : i < n) : (natL n).getD i 0 = (i : Int) := by
  unfold natL
  rw [List.getD_eq_getElem?_getD, List.getElem?_map, List.getElem?_range h]
  rfl
theorem natL_per (n : Nat) : PerP n (natL n) := ⟨natL_len n, fun i hi => by rw [natL_at hi]; omega, fun i j hij hj => by rw [natL_at hj, natL_at (by omega)]; omega⟩
theorem natL_ord {l : List Ev} {ps : List Pr} (h : MayP l ps) {n : Nat} : OrdP n (befB l ps) (natL n) := ⟨natL_per n, fun i j hij hj => by
  rw [natL_at hj, natL_at (by omega)]
  cases q : befB l ps (Int.toNat (j : Int)) (Int.toNat (i : Int))
  · rfl
  · have := bef_lt h q
    omega⟩
end
end Go.Proofs.YtmfdlcicbiincaaDoor
