/- renref2: times, divide. -/
import Derived.Test.YtakahpbondaidaaGreatDoorZP
import Derived.Test.YtakahpbondaidaaGreatDoorZH
namespace Go.Proofs.YtakahpbondaidaaGreatDoor.Bg
open Go.RowKit

/-- Block b is a box of a sign and a slice. -/
def BoxO (w : World) (b : Nat) (p : Bool) (A : Option Addr) (n c : Nat) : Prop := w.heap[b]? = some (.cells #[.bool p, .slice A n c] 26)
section
variable {w w' : World} {b n c : Nat} {p : Bool} {A : Option Addr}
theorem BoxO.lt (h : BoxO w b p A n c) : b < w.heap.size := (Array.getElem?_eq_some_iff.1 h).1
theorem BoxO.below (h : BoxO w b p A n c) (hp : Below w.heap.size w w') : BoxO w' b p A n c := (hp.block b h.lt).trans h
theorem BoxO.plus' (h : BoxO w b p A n c) (hp : Plus w w') : BoxO w' b p A n c := h.below hp.below
theorem BoxO.alloc (h : BoxO w b p A n c) (o : Obj) : BoxO (w.alloc o) b p A n c := h.plus' ((Plus.refl _).alloc o)
theorem BoxO.grow (h : BoxO w b p A n c) (x : More) : BoxO (_root_.Go.Proofs.YtakahpbondaidaaGreatDoor.plus w x) b p A n c := h.plus' (Plus.is x)
theorem BoxO.drew (h : BoxO w b p A n c) : BoxO w.drew b p A n c := h
theorem BoxO.new' (h : b = w.heap.size) : BoxO (w.alloc (.cells #[.bool p, .slice A n c] 26)) b p A n c := by
  subst h
  exact Array.getElem?_push_size
theorem BoxO.cells (h : BoxO w b p A n c) : w.cell? ⟨b, 0, none⟩ = some (.bool p) ∧ w.cell? ⟨b, 1, none⟩ = some (.slice A n c) ∧ w.frozen? ⟨b, 0, none⟩ = false ∧ w.frozen? ⟨b, 1, none⟩ = false := by
  have h' : w.heap[b]? = some (.cells #[.bool p, .slice A n c] 26) := h
  refine ⟨?_, ?_, ?_, ?_⟩
  · simp only [World.cell?, h']; rfl
  · simp only [World.cell?, h']; rfl
  · simp only [World.frozen?, h']; rfl
  · simp only [World.frozen?, h']; rfl
end
/-- W' is W, what stands in some boxes aside. -/
def Alt (W W' : World) : Prop := W.heap.size = W'.heap.size ∧ ∀ k : Nat, W'.heap[k]? = W.heap[k]? ∨ ∃ o o', W.heap[k]? = some o ∧ isBox o ∧ W'.heap[k]? = some o' ∧ isBox o'
section
variable {W W' : World}
theorem Alt.refl (W : World) : Alt W W := ⟨rfl, fun _ => .inl rfl⟩
theorem Alt.box (h : Alt W W') {o o' : Obj} (ho : isBox o) (ho' : isBox o') : Alt (W.alloc o) (W'.alloc o') := by
  refine ⟨by rw [World.size_alloc, World.size_alloc, h.1], fun k => ?_⟩
  rcases Nat.lt_trichotomy k W.heap.size with hk | hk | hk
  · rw [Below.heap_alloc _ _ _ hk, Below.heap_alloc _ _ _ (by rw [← h.1]; exact hk)]
    exact h.2 k
  · subst hk
    refine .inr ⟨o, o', Array.getElem?_push_size, ho, ?_, ho'⟩
    rw [h.1]
    exact Array.getElem?_push_size
  · left
    rw [Array.getElem?_eq_none (by rw [World.size_alloc]; have := h.1; omega), Array.getElem?_eq_none (by rw [World.size_alloc]; have := h.1; omega)]
theorem Alt.alloc (h : Alt W W') (o : Obj) : Alt (W.alloc o) (W'.alloc o) := by
  refine ⟨by rw [World.size_alloc, World.size_alloc, h.1], fun k => ?_⟩
  rcases Nat.lt_trichotomy k W.heap.size with hk | hk | hk
  · rw [Below.heap_alloc _ _ _ hk, Below.heap_alloc _ _ _ (by rw [← h.1]; exact hk)]
    exact h.2 k
  · subst hk
    left
    have e1 : (W.alloc o).heap[W.heap.size]? = some o := Array.getElem?_push_size
    have e2 : (W'.alloc o).heap[W'.heap.size]? = some o := Array.getElem?_push_size
    rw [e1, h.1, e2]
  · left
    rw [Array.getElem?_eq_none (by rw [World.size_alloc]; have := h.1; omega), Array.getElem?_eq_none (by rw [World.size_alloc]; have := h.1; omega)]
theorem Alt.grow (h : Alt W W') (x : More) : Alt (_root_.Go.Proofs.YtakahpbondaidaaGreatDoor.plus W x) (_root_.Go.Proofs.YtakahpbondaidaaGreatDoor.plus W' x) := by
  refine ⟨by rw [size_plus, size_plus, h.1], fun k => ?_⟩
  rcases Nat.lt_or_ge k W.heap.size with hk | hk
  · rw [heap_plus_lt _ _ hk, heap_plus_lt _ _ (by rw [← h.1]; exact hk)]
    exact h.2 k
  · left
    show (W'.heap ++ x.blocks.toArray)[k]? = (W.heap ++ x.blocks.toArray)[k]?
    rw [Array.getElem?_append_right hk, Array.getElem?_append_right (by rw [← h.1]; exact hk), h.1]
theorem Alt.drewL (h : Alt W W') : Alt W.drew W' := h
theorem Alt.drewR (h : Alt W W') : Alt W W'.drew := h
theorem Alt.set0 (W : World) {b n c : Nat} {p : Bool} {A : Option Addr} (hb : BoxO W b p A n c) (q : Bool) : Alt W (W.setCell ⟨b, 0, none⟩ (.bool q)) ∧ BoxO (W.setCell ⟨b, 0, none⟩ (.bool q)) b q A n c := by
  have e : (W.setCell ⟨b, 0, none⟩ (.bool q)).heap[b]? = some (.cells #[.bool q, .slice A n c] 26) := by
    unfold World.setCell
    simp only
    rw [Array.getElem?_modify, if_pos rfl, hb]
    rfl
  refine ⟨⟨by rw [World.size_setCell], fun k => ?_⟩, e⟩
  by_cases hk : b = k
  · subst hk
    exact .inr ⟨_, _, hb, isBox.mk _ _ _ _ _, e, isBox.mk _ _ _ _ _⟩
  · left
    unfold World.setCell
    simp only
    rw [Array.getElem?_modify, if_neg hk]
theorem Alt.set1 (W : World) {b n c : Nat} {p : Bool} {A : Option Addr} (hb : BoxO W b p A n c) (A' : Option Addr) (n' c' : Nat) : Alt W (W.setCell ⟨b, 1, none⟩ (.slice A' n' c')) ∧ BoxO (W.setCell ⟨b, 1, none⟩ (.slice A' n' c')) b p A' n' c' := by
  have e : (W.setCell ⟨b, 1, none⟩ (.slice A' n' c')).heap[b]? = some (.cells #[.bool p, .slice A' n' c'] 26) := by
    unfold World.setCell
    simp only
    rw [Array.getElem?_modify, if_pos rfl, hb]
    rfl
  refine ⟨⟨by rw [World.size_setCell], fun k => ?_⟩, e⟩
  by_cases hk : b = k
  · subst hk
    exact .inr ⟨_, _, hb, isBox.mk _ _ _ _ _, e, isBox.mk _ _ _ _ _⟩
  · left
    unfold World.setCell
    simp only
    rw [Array.getElem?_modify, if_neg hk]
theorem Alt.trans {W'' : World} (h : Alt W W') (k : Alt W' W'') : Alt W W'' := by
  refine ⟨h.1.trans k.1, fun i => ?_⟩
  rcases h.2 i with e1 | ⟨o, o', a1, a2, a3, a4⟩
  · rcases k.2 i with e2 | ⟨q, q', b1, b2, b3, b4⟩
    · exact .inl (e2.trans e1)
    · exact .inr ⟨q, q', by rw [← e1]; exact b1, b2, b3, b4⟩
  · rcases k.2 i with e2 | ⟨q, q', b1, b2, b3, b4⟩
    · exact .inr ⟨o, o', a1, a2, by rw [e2]; exact a3, a4⟩
    · exact .inr ⟨o, q', a1, a2, b3, b4⟩
/-- Both cells of a box are written. -/
theorem Alt.sets (W : World) {b n c n' c' : Nat} {p q : Bool} {A A' : Option Addr} (hb : BoxO W b p A n c) : Alt W ((W.setCell ⟨b, 0, none⟩ (.bool q)).setCell ⟨b, 1, none⟩ (.slice A' n' c')) ∧ BoxO ((W.setCell ⟨b, 0, none⟩ (.bool q)).setCell ⟨b, 1, none⟩ (.slice A' n' c')) b q A' n' c' := by
  obtain ⟨a1, b1⟩ := Alt.set0 W hb q
  obtain ⟨a2, b2⟩ := Alt.set1 _ b1 A' n' c'
  exact ⟨a1.trans a2, b2⟩
/-- W' came after W: boxes written, blocks made. -/
def Later (W W' : World) : Prop := ∃ W1, Alt W W1 ∧ Plus W1 W'
theorem Later.of_alt (h : Alt W W') : Later W W' := ⟨W', h, Plus.refl _⟩
theorem Later.alloc (h : Later W W') (o : Obj) : Later W (W'.alloc o) := by
  obtain ⟨W1, h1, h2⟩ := h
  exact ⟨W1, h1, h2.alloc o⟩
theorem Later.grow (h : Later W W') (x : More) : Later W (_root_.Go.Proofs.YtakahpbondaidaaGreatDoor.plus W' x) := by
  obtain ⟨W1, h1, h2⟩ := h
  exact ⟨W1, h1, h2.plus x⟩
theorem Later.drew (h : Later W W') : Later W W'.drew := by
  obtain ⟨W1, h1, h2⟩ := h
  exact ⟨W1, h1, h2.drew⟩
theorem Lim.alt' {A : Option Addr} {xs : List Nat} (h : Lim W A xs) (a : Alt W W') : Lim W' A xs :=
  h.alt (fun k => W'.heap[k]? ≠ W.heap[k]?) (Nat.le_of_eq a.1) (fun g hg => by
    rcases a.2 g with e | ⟨o, _, e, ho, _⟩
    · exact (hg e).elim
    · exact ⟨o, e, ho⟩) (fun _ hk => Classical.not_not.1 hk)
theorem Lim.later {A : Option Addr} {xs : List Nat} (h : Lim W A xs) (a : Later W W') : Lim W' A xs := by
  obtain ⟨W1, h1, h2⟩ := a
  exact (h.alt' h1).plus h2
theorem Arg.later {A : Option Addr} {xs : List Nat} {n c : Nat} (h : Arg W A xs n c) (a : Later W W') : Arg W' A xs n c := ⟨h.lim.later a, h.len, h.few, h.cap, h.max⟩
end

class HasCell (w : World) (n i : Nat) : Prop where out : ∃ u, w.cell? ⟨n, i, none⟩ = some u
instance (w : World) (n i : Nat) (a : Addr) (v : Value) [h : HasCell w n i] : HasCell (w.setCell a v) n i := ⟨by
  obtain ⟨u, hu⟩ := h.out
  obtain ⟨v', hy⟩ := cell?_setCell_some (w := w) (p := a) (x := v) (q := ⟨n, i, none⟩) (v := u) hu
  exact ⟨_, hy⟩⟩
@[go_sem] theorem cell?_setCell_has (w : World) (n i : Nat) (v : Value) [h : HasCell w n i] : (w.setCell ⟨n, i, none⟩ v).cell? ⟨n, i, none⟩ = some v := by
  obtain ⟨u, hu⟩ := h.out
  simp [go_sem, hu]
theorem _root_.Go.Proofs.YtakahpbondaidaaGreatDoor.Plus.setCell {w w' : World} (h : Plus w w') {p : Addr} (hp : w.heap.size ≤ p.block) (v : Value) : Plus w (w'.setCell p v) := .of_below (h.below.setCell hp v)


theorem lim_zero (ys : List Nat) (k : Nat) : lim (ys ++ [0]) k = lim ys k := by
  unfold lim
  rw [List.getD_eq_getElem?_getD, List.getD_eq_getElem?_getD]
  rcases Nat.lt_trichotomy k ys.length with h | h | h
  · rw [List.getElem?_append_left h]
  · subst h; simp
  · rw [List.getElem?_eq_none (by simp; omega), List.getElem?_eq_none (by omega)]
theorem val_zero (ys : List Nat) : val (ys ++ [0]) = val ys := by rw [val_snoc, Nat.mul_zero, Nat.add_zero]
theorem okL_zero {ys : List Nat} (h : okL ys) : okL (ys ++ [0]) := h.append (okL.cons B_pos okL_nil)
theorem LimbAt.full {xs ys os : List Nat} {i c : Nat} (h : LimbAt xs (ys ++ [0]) i (ys.length + 1) os c) (hx : okL xs) (hy : okL ys) : RowAt xs (ys ++ [0]) (i + 1) os := by
  have hl : (ys ++ [0]).length = ys.length + 1 := by simp
  have e := h.eq
  rw [low_all (xs := ys ++ [0]) (k := ys.length + 1) (by rw [hl]; exact Nat.le_refl _), val_zero] at e
  have hb : low xs (i + 1) * val ys < B ^ (i + 1) * B ^ ys.length := by
    have h1 := low_lt hx (i + 1)
    have h2 := val_lt hy
    exact Nat.mul_lt_mul_of_lt_of_le h1 (Nat.le_of_lt h2) (Nat.pow_pos B_pos)
  rw [low_succ, Nat.add_mul, Nat.mul_assoc, ← Nat.pow_add] at hb
  rw [← e] at hb
  have hc : c = 0 := by
    rcases Nat.eq_zero_or_pos c with hc | hc
    · exact hc
    · have : B ^ (i + (ys.length + 1)) * 1 ≤ B ^ (i + (ys.length + 1)) * c := Nat.mul_le_mul_left _ hc
      rw [show i + 1 + ys.length = i + (ys.length + 1) by omega] at hb
      omega
  subst hc
  refine ⟨h.len, h.ok, fun j h1 h2 => h.zero j (by omega) h2, ?_⟩
  rw [Nat.mul_zero, Nat.add_zero] at e
  rw [e, low_succ, Nat.add_mul, Nat.mul_assoc, val_zero]
def TRow (xs ys : List Nat) (g : Nat) (w : World) (s6 : Value) (wr : World) : Prop :=
  ∃ (i : Nat) (os : List Nat), i ≤ xs.length ∧ s6 = .int .i64 i ∧ RowAt xs (ys ++ [0]) i os ∧ Own wr g os ∧ Below w.heap.size w wr
def TLimb (xs ys : List Nat) (i g : Nat) (w : World) (s7 s8 : Value) (wr : World) : Prop :=
  ∃ (k : Nat) (os : List Nat) (c : Nat), k ≤ ys.length + 1 ∧ s7 = .int .u64 c ∧ s8 = .int .i64 k ∧ LimbAt xs (ys ++ [0]) i k os c ∧ Own wr g os ∧ Below w.heap.size w wr

set_option maxRecDepth 100000 in
set_option maxHeartbeats 8000000 in
theorem rtimes_c (A C : Option Addr) (xs ys : List Nat) (n c m d : Nat) (w : World) (h : Lim w A xs) (k : Lim w C ys) (hn : n = xs.length) (hm : m = ys.length) (hl : xs.length ≤ 1024) (kl : ys.length ≤ 1024) :
    Calls Tryz.prog 201 #[.slice A n c, .slice C m d] w (RetL (val xs * val ys) w) := by
  subst hn hm
  have hmk := run_make_row' (P := Tryz.prog) 24 69 (.int .u32 0) 4 Tryz.underlying24 info53_ rfl .i64 .i64 (xs.length + ys.length + 1) (by omega) (by omega)
  rw [zeros_cells, show ((xs.length + ys.length + 1 : Nat) : Int) = (xs.length : Int) + (ys.length : Int) + 1 by omega] at hmk
  have hzl : (ys ++ [0]).length = ys.length + 1 := by simp
  go_enter Tryz.func201, Tryz.ntmps201
  go_wp2
  clear hmk
  go_loopw [6] (TRow xs ys w.heap.size w) (fun s6 _ => ((xs.length : Int) - intOf s6).toNat)
  case atStart => exact ⟨0, _, by omega, rfl, by have q := RowAt.start xs (ys ++ [0]); rw [hzl] at q; exact q, Own.zeros w _ 69 _ rfl, (Below.refl _ _).alloc (Nat.le_refl _) _⟩
  case round =>
    obtain ⟨i, os, hi, rfl, hR, hO, hB⟩ := hrel
    by_cases hlt : i < xs.length
    · have HR := Lib.hid hR
      have HO := Lib.hid hO
      have HB := Lib.hid hB
      have HZ := Lib.hid hzl
      clear hR hO hB hzl
      obtain ⟨wo, rfl⟩ : ∃ wo : World, wo = wr := ⟨_, rfl⟩
      go_wp2
      go_loopw [7, 8] (TLimb xs ys i w.heap.size w) (fun _ s8 _ => ((ys.length : Int) + 1 - intOf s8).toNat)
      case atStart => exact ⟨0, os, 0, by omega, rfl, rfl, HR.out.limbs, HO.out, HB.out⟩
      case round =>
        clear HR HO HB
        obtain ⟨j, os, cy, hj, rfl, rfl, hS, hO, hB⟩ := hrel
        have hol : os.length = xs.length + (ys.length + 1) := by rw [hS.len, HZ.out]
        by_cases hlt2 : j < ys.length + 1
        · have hjo : i + j < os.length := by omega
          obtain ⟨x0, x1⟩ := lim_i h.1 i
          obtain ⟨y0, y1⟩ := lim_i k.1 j
          obtain ⟨o0, o1⟩ := lim_i hS.ok (i + j)
          obtain ⟨ad, rfl, hxc⟩ := (h.below hB).at_ hlt
          have hcell := hO.cell hjo
          have hfro := hO.frozen (i + j)
          have eij : ((i : Int) + (j : Int)).toNat = i + j := by omega
          have hij : (i : Int) + (j : Int) < (xs.length : Int) + (ys.length : Int) + 1 := by omega
          have hji : (j : Int) < (ys.length : Int) + 1 := by omega
          have hcb : (cy : Int) < 4294967296 := by have := hS.carry; have := B_eq; omega
          have HK := Lib.hid (k.below hB)
          have hstep := hS.succ h.1 (okL_zero k.1) hlt (by rw [HZ.out]; exact hlt2)
          rw [lim_zero] at hstep
          obtain ⟨x, ex⟩ : ∃ x, lim xs i = x := ⟨_, rfl⟩
          obtain ⟨y, ey⟩ : ∃ y, lim ys j = y := ⟨_, rfl⟩
          obtain ⟨o, eo⟩ : ∃ o, lim os (i + j) = o := ⟨_, rfl⟩
          have hxB := lim_lt h.1 i
          have hyB := lim_lt k.1 j
          rw [ex] at x0 x1 hxc hstep hxB
          rw [ey] at y0 y1 hstep hyB
          rw [eo] at o0 o1 hcell hstep
          obtain ⟨p0, p1⟩ := mul_i hxB hyB
          obtain ⟨P, eP⟩ : ∃ P : Nat, x * y = P := ⟨_, rfl⟩
          have hP : (x : Int) * (y : Int) = (P : Int) := by rw [← eP, Int.natCast_mul]
          rw [eP] at hstep
          rw [hP] at p0 p1
          obtain ⟨s, es⟩ : ∃ s : Nat, P + o + cy = s := ⟨_, rfl⟩
          rw [es] at hstep
          have hs : (cy : Int) + (o : Int) + (P : Int) = (s : Int) := by omega
          have hs2 : s < 18446744073709551616 := by omega
          have hs3 : (s : Int) < 18446744073709551616 := by omega
          have hs4 : (0 : Int) ≤ (s : Int) := by omega
          have hco : (cy : Int) + (o : Int) < 8589934592 := by omega
          obtain ⟨r, er⟩ : ∃ r : Nat, s % B = r := ⟨_, rfl⟩
          obtain ⟨q, eq⟩ : ∃ q : Nat, s / B = q := ⟨_, rfl⟩
          rw [er, eq] at hstep
          have hand : bits BinOp.and IntKind.u64 (s : Int) 4294967295 = (r : Int) := by rw [low32 hs2, er]
          have hrb : r < B := by rw [← er]; exact Nat.mod_lt _ B_pos
          have hr : (r : Int) ≤ 4294967295 := by have := B_eq; omega
          have hq : (s : Int) / 4294967296 = (q : Int) := by rw [← eq, B_eq]; omega
          have w1 : IntKind.u64.wrap ((cy : Int) + (o : Int)) = (cy : Int) + (o : Int) := IntWalk.u64_in _ (by omega)
          have w2 : IntKind.u64.wrap ((x : Int) * (y : Int)) = (P : Int) := by rw [hP]; exact IntWalk.u64_in _ (by omega)
          have w3 : IntKind.u64.wrap ((cy : Int) + (o : Int) + (P : Int)) = (s : Int) := by rw [hs]; exact IntWalk.u64_in _ (by omega)
          have w4 : IntKind.i64.wrap ((i : Int) + (j : Int)) = (i : Int) + (j : Int) := IntWalk.i64_in _ (by omega)
          have HY := Lib.hid ey
          have HS := Lib.hid hstep
          have HO := Lib.hid hO
          have HB := Lib.hid hB
          have HRB := Lib.hid hrb
          have HOL := Lib.hid hol
          clear hstep hS hO hB ex ey eo eP es er eq hrb hxB hyB hs2 hol
          go_wp2_with fail
          go_quiet ((go_at_call 126; with_reducible exact Calls.quiet_of_same ((rword_c C ys ys.length d j j _ (by first | exact HK.out | exact HK.out.drewN _) rfl rfl).mono fun _ _ ⟨a, b⟩ => ⟨by rw [a, HY.out], b.symm⟩)))
          go_wp2_with fail
          go_roundw
          case rel => exact ⟨j + 1, _, _, by omega, rfl, by rw [show ((j + 1 : Nat) : Int) = (j : Int) + 1 by omega], HS.out, (HO.out.drewN _).set (by rw [HOL.out]; omega) HRB.out, (below_drewN HB.out _).setCell (Nat.le_refl _) _⟩
          case measure => simp [intOf]; omega
        · obtain rfl : j = ys.length + 1 := by omega
          have HF := Lib.hid (hS.full h.1 k.1)
          have HO := Lib.hid hO
          clear hS hO
          have ej : ((ys.length + 1 : Nat) : Int) = (ys.length : Int) + 1 := by omega
          rw [ej]
          go_wp2
          go_roundw
          case rel => exact ⟨i + 1, _, hlt, by rw [show ((i + 1 : Nat) : Int) = (i : Int) + 1 by omega], HF.out, HO.out, hB⟩
          case measure => simp [intOf]; omega
    · obtain rfl : i = xs.length := by omega
      have hv := hR.done
      rw [val_zero] at hv
      have hol : os.length = xs.length + ys.length + 1 := by rw [hR.len, hzl]; omega
      have ei : ((xs.length + ys.length + 1 : Nat) : Int) = (xs.length : Int) + (ys.length : Int) + 1 := by omega
      have HT := rtrim_c (some ⟨w.heap.size, 0, none⟩) os (xs.length + ys.length + 1) (xs.length + ys.length + 1) wr hO.toLim hol.symm (by omega) (by omega) (by omega)
      rw [hv] at HT
      have HB := Lib.hid hB
      clear hR hO hv hol hB
      go_wp2_with fail
      refine HT.mono ?_
      rintro e w1 ⟨A3, c3, rfl, r1, r2, r3, r4, r5⟩
      have HP := Lib.hid r4
      have HR3 := Lib.hid r3
      have HR5 := Lib.hid r5
      clear r3 r4 r5
      go_wp2_with fail
      go_ret
      exact ⟨A3, c3, rfl, r1, r2, HR3.out, (Plus.of_below HB.out).trans HP.out, fun ad e => Nat.le_trans HB.out.size (HR5.out ad e)⟩
theorem rtimes_n (A C : Option Addr) (xs ys us : List Nat) (n c m d : Nat) (hv : Hid (dig (val xs * val ys) = us)) (w : World) (h : Lim w A xs) (k : Lim w C ys) (hn : n = xs.length) (hm : m = ys.length) (hl : xs.length ≤ 1024) (kl : ys.length ≤ 1024) : Calls Tryz.prog 201 #[.slice A n c, .slice C m d] w fun e w' => ∃ (A1 : Option Addr) (c1 : Nat), e = .returned (.slice A1 us.length c1) ∧ us.length ≤ c1 ∧ c1 ≤ 9223372036854775807 ∧ Lim w' A1 us ∧ Plus w w' := by
  have h := rtimes_c A C xs ys n c m d w h k hn hm hl kl
  obtain rfl := hv.out
  exact h.mono fun _ _ ⟨A1, c1, h1, h2, h3, h4, h5, _⟩ => ⟨A1, c1, h1, h2, h3, h4, h5⟩

theorem rdivide_n (A C : Option Addr) (xs ys qs rs : List Nat) (n c m d : Nat) (hv : Hid (dig (val xs / val ys) = qs ∧ dig (val xs % val ys) = rs)) (hy : Hid (0 < val ys)) (w : World) (h : Lim w A xs) (k : Lim w C ys) (hn : n = xs.length) (hm : m = ys.length) (hl : xs.length ≤ 1024) (kl : ys.length ≤ 1024) : Calls Tryz.prog 125 #[.slice A n c, .slice C m d] w fun e w' => ∃ (A1 C1 : Option Addr) (c1 d1 : Nat), e = .returned (.tuple #[.slice A1 qs.length c1, .slice C1 rs.length d1]) ∧ qs.length ≤ c1 ∧ c1 ≤ 9223372036854775807 ∧ rs.length ≤ d1 ∧ d1 ≤ 9223372036854775807 ∧ Lim w' A1 qs ∧ Lim w' C1 rs ∧ Plus w w' := by
  have h := rdivide_c A C xs ys n c m d w h k hn hm hl kl hy.out
  obtain ⟨rfl, rfl⟩ := hv.out
  exact h


end Go.Proofs.YtakahpbondaidaaGreatDoor.Bg
