/- Contracts: made, fitting, below, May, valid. -/
import Derived.Test.YthaokkmbghgopaaC9
namespace Go.Proofs.Ythaokkmbghgopaa
open Go.RowKit


/-- The number n is returned, its limbs lie in memory; what was there is as it was. -/
def RetBig (n : Int) (w : World) (e : Ending) (w' : World) : Prop :=
  ∃ (A : Option Addr) (c : Nat), e = .returned (.agg #[.bool (decide (n < 0)), .slice A (dig n.natAbs).length c]) ∧ (dig n.natAbs).length ≤ c ∧ c ≤ 9223372036854775807 ∧ Lim w' A (dig n.natAbs) ∧ Plus w w'
theorem Lim.plus {w : World} {A : Option Addr} {xs : List Nat} (h : Lim w A xs) {w' : World} (hp : Plus w w') : Lim w' A xs := h.below hp.below
theorem Lim.grow {w : World} {A : Option Addr} {xs : List Nat} (h : Lim w A xs) (x : More) : Lim (_root_.Go.Proofs.Ythaokkmbghgopaa.plus w x) A xs := h.plus ⟨x, rfl⟩
def More.add (x y : More) : More := ⟨x.blocks ++ y.blocks, y.draws⟩
theorem plus_add (w : World) (x y : More) : plus (plus w x) y = plus w (x.add y) := plus_plus w x y
/-- The result's own cells are no limbs: they may turn. -/
theorem Lim.res {w : World} {x : More} {A : Option Addr} {xs : List Nat} {b b' : Bool} {a a' : Option Addr} {n n' c c' : Nat} {t : TypeId} (h : Lim (_root_.Go.Proofs.Ythaokkmbghgopaa.plus (w.alloc (.cells #[.bool b, .slice a n c] t)) x) A xs) :
    Lim (_root_.Go.Proofs.Ythaokkmbghgopaa.plus (w.alloc (.cells #[.bool b', .slice a' n' c'] t)) x) A xs := by
  refine ⟨h.1, fun h0 => ?_⟩
  obtain ⟨ad, rfl, hb, hc⟩ := h.2 h0
  have hsz : ∀ o : Obj, (_root_.Go.Proofs.Ythaokkmbghgopaa.plus (w.alloc o) x).heap.size = w.heap.size + 1 + x.blocks.length := fun o => by rw [size_plus, World.size_alloc]
  have hold : ∀ (o : Obj) (k : Nat), k ≠ w.heap.size → (_root_.Go.Proofs.Ythaokkmbghgopaa.plus (w.alloc o) x).heap[k]? = if k < w.heap.size then w.heap[k]? else x.blocks[k - (w.heap.size + 1)]? := fun o k hk => by
    by_cases hlt : k < w.heap.size
    · rw [if_pos hlt, heap_plus_lt _ _ (by rw [World.size_alloc]; omega), Below.heap_alloc _ _ _ hlt]
    · rw [if_neg hlt]
      show ((w.alloc o).heap ++ x.blocks.toArray)[k]? = _
      rw [Array.getElem?_append_right (by rw [World.size_alloc]; omega), World.size_alloc]
      simp
  have hne : ad.block ≠ w.heap.size := fun e => by
    have h1 := hc 0 h0
    have h2 : (ad.add 0) = ad := by unfold Addr.add; rw [if_pos rfl]
    rw [h2] at h1
    have h3 : (_root_.Go.Proofs.Ythaokkmbghgopaa.plus (w.alloc (.cells #[.bool b, .slice a n c] t)) x).heap[ad.block]? = some (.cells #[.bool b, .slice a n c] t) := by
      rw [e, heap_plus_lt _ _ (by rw [World.size_alloc]; omega)]
      exact heap_alloc_new w _
    unfold World.cell? at h1
    rw [h3] at h1
    simp only at h1
    split at h1
    · cases h1
    · match hoff : ad.off with
      | 0 => rw [hoff] at h1; simp at h1
      | 1 => rw [hoff] at h1; simp at h1
      | k + 2 => rw [hoff] at h1; simp at h1
  refine ⟨ad, rfl, by rw [hsz] at hb ⊢; exact hb, fun j hj => ?_⟩
  rw [← hc j hj]
  apply World.cell?_of_block
  rw [block_of_add, hold _ _ hne, hold _ _ hne]
theorem Lim.res2 {w : World} {x y : More} {A : Option Addr} {xs : List Nat} {b b' : Bool} {a a' : Option Addr} {n n' c c' : Nat} {t : TypeId} (h : Lim (_root_.Go.Proofs.Ythaokkmbghgopaa.plus (_root_.Go.Proofs.Ythaokkmbghgopaa.plus (w.alloc (.cells #[.bool b, .slice a n c] t)) x) y) A xs) :
    Lim (_root_.Go.Proofs.Ythaokkmbghgopaa.plus (_root_.Go.Proofs.Ythaokkmbghgopaa.plus (w.alloc (.cells #[.bool b', .slice a' n' c'] t)) x) y) A xs := by
  rw [plus_add] at h ⊢
  exact h.res
theorem Lim.res3 {w : World} {x y z : More} {A : Option Addr} {xs : List Nat} {b b' : Bool} {a a' : Option Addr} {n n' c c' : Nat} {t : TypeId} (h : Lim (_root_.Go.Proofs.Ythaokkmbghgopaa.plus (_root_.Go.Proofs.Ythaokkmbghgopaa.plus (_root_.Go.Proofs.Ythaokkmbghgopaa.plus (w.alloc (.cells #[.bool b, .slice a n c] t)) x) y) z) A xs) :
    Lim (_root_.Go.Proofs.Ythaokkmbghgopaa.plus (_root_.Go.Proofs.Ythaokkmbghgopaa.plus (_root_.Go.Proofs.Ythaokkmbghgopaa.plus (w.alloc (.cells #[.bool b', .slice a' n' c'] t)) x) y) z) A xs := by
  rw [plus_add, plus_add] at h ⊢
  exact h.res
theorem sgn_neg {neg : Bool} {m : Nat} (h : m ≠ 0) : decide (sgn neg m < 0) = neg := by
  cases neg <;> simp [sgn]
  omega
theorem dig_ne {m : Nat} (h : m ≠ 0) : (dig m).length ≠ 0 := fun e => h (dig_inj (by rw [List.eq_nil_of_length_eq_zero e, dig_zero]))

set_option maxHeartbeats 1000000 in
theorem made_c (neg : Bool) (A : Option Addr) (xs : List Nat) (n c : Nat) (w : World) (h : Lim w A xs) (hn : n = xs.length) (hl : xs.length ≤ c) (hc : c ≤ 9223372036854775807) :
    Calls Try.prog 57 #[.bool neg, .slice A n c] w (RetBig (sgn neg (val xs)) w) := by
  subst hn
  obtain ⟨m, hm⟩ : ∃ m, val xs = m := ⟨_, rfl⟩
  have hL := h.dig
  have hd := (dig_head h.1).2
  rw [hm] at hL hd
  by_cases h0 : m = 0
  · have e1 : (dig m).length = 0 := by rw [h0, dig_zero]; rfl
    have HM := Lib.hid hm; clear hm
    go_enter Try.func57, Try.ntmps57
    go_wp2_with (go_at_call 84; refine (trim_c _ _ _ _ (h.alloc _) hl hc).mono ?_; rintro e w1 ⟨rfl, rfl⟩; rw [HM.out, e1])
    go_returns
    subst h0
    rw [HM.out]
    refine ⟨none, 0, ?_, by rw [sgn_abs]; exact Nat.le_of_eq e1, by omega, by rw [sgn_abs, dig_zero]; exact Lim.nil, (Plus.refl _).alloc _⟩
    rw [sgn_abs, e1]
    cases neg <;> rfl
  · obtain ⟨L, hlen⟩ : ∃ L, (dig m).length = L := ⟨_, rfl⟩
    have hL0 : ((L : Int) == 0) = false := by rw [← hlen]; exact cast_ne (dig_ne h0)
    have HM := Lib.hid hm; clear hm
    have HL := Lib.hid hlen; clear hlen
    go_enter Try.func57, Try.ntmps57
    go_wp2_with (go_at_call 84; refine (trim_c _ _ _ _ (h.alloc _) hl hc).mono ?_; rintro e w1 ⟨rfl, rfl⟩; rw [HM.out, HL.out])
    go_returns
    rw [HM.out]
    refine ⟨A, c, ?_, by rw [sgn_abs]; exact Nat.le_trans hd hl, hc, by rw [sgn_abs]; exact hL.alloc _, (Plus.refl _).alloc _⟩
    rw [sgn_abs, sgn_neg h0, HL.out]

/-- A number or, if it has too many limbs, zero and false. -/
def RetBigOk (n : Int) (w : World) (e : Ending) (w' : World) : Prop :=
  ∃ (A : Option Addr) (c : Nat) (m : Int) (ok : Bool), e = .returned (.tuple #[.agg #[.bool (decide (m < 0)), .slice A (dig m.natAbs).length c], .bool ok]) ∧ ok = decide (n.natAbs < B ^ 8) ∧ m = (if n.natAbs < B ^ 8 then n else 0) ∧ (dig m.natAbs).length ≤ c ∧ c ≤ 9223372036854775807 ∧ Lim w' A (dig m.natAbs) ∧ Plus w w'
theorem dig_long {m : Nat} : (dig m).length ≤ 8 ↔ m < B ^ 8 := ⟨lt_of_dig_len, dig_len_le⟩

set_option maxHeartbeats 1000000 in
theorem fitting_c (neg : Bool) (A : Option Addr) (xs : List Nat) (n c : Nat) (w : World) (h : Lim w A xs) (hn : n = xs.length) (hl : xs.length ≤ c) (hc : c ≤ 9223372036854775807) :
    Calls Try.prog 52 #[.bool neg, .slice A n c] w (RetBigOk (sgn neg (val xs)) w) := by
  subst hn
  obtain ⟨m, hm⟩ : ∃ m, val xs = m := ⟨_, rfl⟩
  have hL := h.dig
  have hd := (dig_head h.1).2
  rw [hm] at hL hd
  rw [hm]
  have HM := Lib.hid hm; clear hm
  obtain ⟨L, hlen⟩ : ∃ L, (dig m).length = L := ⟨_, rfl⟩
  by_cases h0 : m < B ^ 8
  · have hL8 : (L : Int) ≤ 8 := by rw [← hlen]; have := dig_long.2 h0; omega
    have HL := Lib.hid hlen; clear hlen
    go_enter Try.func52, Try.ntmps52
    go_wp2_with (go_at_call 84; refine (trim_c _ _ _ _ (h.alloc _) hl hc).mono ?_; rintro e w1 ⟨rfl, rfl⟩; rw [HM.out, HL.out])
    have ev : sgn neg (val (dig m)) = sgn neg m := by rw [val_dig]
    have EV := Lib.hid ev; clear ev
    refine (made_c neg A (dig m) _ c _ (hL.alloc _) HL.out.symm (Nat.le_trans hd hl) hc).mono ?_
    rintro e w1 ⟨A1, c1, rfl, q1, q2, q3, ⟨x1, rfl⟩⟩
    rw [EV.out] at q1 q3 ⊢
    have Q1 := Lib.hid q1; clear q1
    have Q3 := Lib.hid q3; clear q3
    go_wp2_with fail
    go_returns
    refine ⟨A1, c1, _, true, rfl, by rw [sgn_abs]; simp [h0], by rw [sgn_abs, if_pos h0], Q1.out, q2, ?_, ?_⟩
    · exact Q3.out.res
    · repeat' (first | exact Plus.refl _ | refine Plus.alloc ?_ _ | refine Plus.plus ?_ _ | refine Plus.drew ?_ | refine Plus.drewN ?_ _)
  · have hL8 : 8 < (L : Int) := by rw [← hlen]; have := mt dig_long.1 h0; omega
    have HL := Lib.hid hlen; clear hlen
    go_enter Try.func52, Try.ntmps52
    go_wp2_with (go_at_call 84; refine (trim_c _ _ _ _ (h.alloc _) hl hc).mono ?_; rintro e w1 ⟨rfl, rfl⟩; rw [HM.out, HL.out])
    go_returns
    refine ⟨none, 0, 0, false, by rw [show (0 : Int).natAbs = 0 from rfl, dig_zero]; rfl, by rw [sgn_abs]; simp [h0], by rw [sgn_abs, if_neg h0], by rw [show (0 : Int).natAbs = 0 from rfl, dig_zero]; exact Nat.le_refl _, by omega, by rw [show (0 : Int).natAbs = 0 from rfl, dig_zero]; exact Lim.nil, (Plus.refl _).alloc _⟩
end Go.Proofs.Ythaokkmbghgopaa
