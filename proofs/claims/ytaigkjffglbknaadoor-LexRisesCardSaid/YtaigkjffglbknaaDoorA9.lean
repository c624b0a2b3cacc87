/- Contracts: numbers. -/
import Derived.Test.YtaigkjffglbknaaDoorA8
namespace Go.Proofs.YtaigkjffglbknaaDoor
open Go.RowKit


/-- Two worlds that differ in block b alone. -/
structure Exc (b : Nat) (w w' : World) : Prop where
  size : w'.heap.size = w.heap.size
  block : ∀ g, g ≠ b → w'.heap[g]? = w.heap[g]?
theorem Exc.base (w : World) (o1 o2 : Obj) : Exc w.heap.size (w.alloc o1) (w.alloc o2) :=
  ⟨by simp, fun g hg => by
    by_cases h : g < w.heap.size
    · rw [Below.heap_alloc _ _ _ h, Below.heap_alloc _ _ _ h]
    · rw [Array.getElem?_eq_none (by simp; omega), Array.getElem?_eq_none (by simp; omega)]⟩
theorem Exc.alloc {b : Nat} {w w' : World} (h : Exc b w w') (o : Obj) : Exc b (w.alloc o) (w'.alloc o) :=
  ⟨by simp [h.size], fun g hg => by
    by_cases hl : g < w.heap.size
    · rw [Below.heap_alloc _ _ _ hl, Below.heap_alloc _ _ _ (by rw [h.size]; exact hl), h.block g hg]
    · by_cases he : g = w.heap.size
      · subst he
        rw [heap_alloc_new w o, ← h.size, heap_alloc_new w' o]
      · rw [Array.getElem?_eq_none (by simp [h.size]; omega), Array.getElem?_eq_none (by simp; omega)]⟩
theorem Exc.plus {b : Nat} {w w' : World} (h : Exc b w w') (x : More) : Exc b (YtaigkjffglbknaaDoor.plus w x) (YtaigkjffglbknaaDoor.plus w' x) :=
  ⟨by rw [size_plus, size_plus, h.size], fun g hg => by
    by_cases hl : g < w.heap.size
    · rw [heap_plus_lt _ _ hl, heap_plus_lt _ _ (by rw [h.size]; exact hl), h.block g hg]
    · simp only [YtaigkjffglbknaaDoor.plus]
      rw [Array.getElem?_append_right (by rw [h.size]; omega), Array.getElem?_append_right (by omega), h.size]⟩
theorem Exc.drew {b : Nat} {w w' : World} (h : Exc b w w') : Exc b w.drew w'.drew := ⟨h.size, h.block⟩
theorem Exc.drewN {b : Nat} {w w' : World} (h : Exc b w w') (n : Nat) : Exc b (w.drewN n) (w'.drewN n) := ⟨h.size, h.block⟩
/-- Block b holds no number of kind k. -/
def NoInt (k : IntKind) (b : Nat) (w : World) : Prop := ∀ i z, w.cell? ⟨b, i, none⟩ ≠ some (.int k z)
def notInt (k : IntKind) : Value → Bool
  | .int j _ => decide (j ≠ k)
  | _ => true
theorem noInt_of {k : IntKind} {b : Nat} {w : World} {C : Array Value} (h : ∀ i, w.cell? ⟨b, i, none⟩ = C[i]?) (hC : C.toList.all (notInt k) = true) : NoInt k b w := fun i z e => by
  rw [h i] at e
  have hm : Value.int k z ∈ C.toList := by
    obtain ⟨hl, he⟩ := Array.getElem?_eq_some_iff.1 e
    rw [← he]
    exact Array.getElem_mem_toList hl
  have := List.all_eq_true.1 hC _ hm
  simp [notInt] at this
theorem Rd.exc {k : IntKind} {b : Nat} {w w' : World} {A : Option Addr} {xs : List Nat} (h : Rd k w A xs) (he : Exc b w w') (hn : NoInt k b w) : Rd k w' A xs := fun h0 => by
  obtain ⟨g, o, rfl, hg, hc⟩ := h h0
  have hgb : g ≠ b := fun e => by subst e; exact hn _ _ (hc 0 h0)
  exact ⟨g, o, rfl, by rw [he.size]; exact hg, hc.keep (he.block g hgb)⟩
theorem Ar.exc {k : IntKind} {K b : Nat} {w w' : World} {A : Option Addr} {xs : List Nat} {n c : Nat} (h : Ar k K w A xs n c) (he : Exc b w w') (hn : NoInt k b w) : Ar k K w' A xs n c := ⟨h.rd.exc he hn, h.len, h.cap, h.max, h.bd⟩
theorem ty_exc {b : Nat} {w w' : World} {A : Option Addr} {n : Nat} {e : TypeId} (h : Bg.Ty w A n e) (he : Exc b w w') (hb : 0 < n → ∀ a, A = some a → a.block ≠ b) : Bg.Ty w' A n e := fun h0 a ha => by
  obtain ⟨cur, z, hh⟩ := h h0 a ha
  exact ⟨cur, z, (he.block _ (hb h0 a ha)).trans hh⟩
theorem ty_exc_rd {k : IntKind} {b : Nat} {w w' : World} {A : Option Addr} {xs : List Nat} {e : TypeId} (hr : Rd k w A xs) (h : Bg.Ty w A xs.length e) (he : Exc b w w') (hn : NoInt k b w) : Bg.Ty w' A xs.length e :=
  ty_exc h he fun h0 a ha => by
    obtain ⟨g, o, e2, hg, hc⟩ := hr h0
    rw [e2] at ha
    injection ha with ha
    subst ha
    intro e3
    have e3 : g = b := e3
    subst e3
    exact hn _ _ (hc 0 h0)
theorem lim_no {b : Nat} {w : World} {A : Option Addr} {xs : List Nat} (h : Bg.Lim w A xs) (hn : NoInt .u32 b w) (h0 : 0 < xs.length) : ∀ a, A = some a → a.block ≠ b := fun a ha => by
  obtain ⟨ad, e, hb, hc⟩ := h.2 h0
  rw [e] at ha
  injection ha with ha
  subst ha
  have hc0 := hc 0 h0
  have hs := World.cell?_spot hc0
  have e0 : ad.add 0 = ad := by unfold Addr.add; rw [if_pos rfl]
  rw [e0] at hs hc0
  obtain ⟨g, o, sp⟩ := ad
  simp only at hs
  subst hs
  intro e3
  have e3 : g = b := e3
  subst e3
  exact hn _ _ hc0
theorem ty_exc_lim {b : Nat} {w w' : World} {A : Option Addr} {xs : List Nat} {e : TypeId} (hr : Bg.Lim w A xs) (h : Bg.Ty w A xs.length e) (he : Exc b w w') (hn : NoInt .u32 b w) : Bg.Ty w' A xs.length e :=
  ty_exc h he fun h0 => lim_no hr hn h0
theorem lim_exc {b : Nat} {w w' : World} {A : Option Addr} {xs : List Nat} (h : Bg.Lim w A xs) (he : Exc b w w') (hn : NoInt .u32 b w) : Bg.Lim w' A xs :=
  ⟨h.1, fun h0 => by
    obtain ⟨ad, rfl, hb, hc⟩ := h.2 h0
    have hc0 := hc 0 h0
    have hs := World.cell?_spot hc0
    have e0 : ad.add 0 = ad := by unfold Addr.add; rw [if_pos rfl]
    rw [e0] at hs hc0
    obtain ⟨g, o, sp⟩ := ad
    simp only at hs
    subst hs
    have hgb : g ≠ b := fun e => by subst e; exact hn _ _ hc0
    exact ⟨_, rfl, by rw [he.size]; exact hb, fun j hj => (World.cell?_of_block (w := w) (by rw [block_of_add]; exact he.block g hgb)).trans (hc j hj)⟩⟩

set_option maxRecDepth 100000 in
set_option maxHeartbeats 4000000 in
theorem bigt_c (d : ByteArray) (c : Nat) (hc : c < 65536) (hd : d.size ≤ 140737488355328) (w : World) : Calls Tryd.prog 57 #[.string d, .int .u16 c] w (RetTok (bigM d c) w) := by
  obtain ⟨E, hE⟩ : ∃ E, Bg.parE d.data.toList = E := ⟨_, rfl⟩
  have HE := Lib.hid hE
  obtain ⟨I, hI⟩ : ∃ I, Bg.parI d.data.toList = I := ⟨_, rfl⟩
  have HI := Lib.hid hI
  have HM : Hid (bigM d c = if E = 0 then (if isPrt c then flt 5 else ⟨{ tk0 with k := 3, b := I }, d.size + 1, 0⟩) else flt 6) := Lib.hid (by unfold bigM; rw [hE, hI])
  clear hE hI
  by_cases h0 : E = 0
  · subst h0
    obtain ⟨q, hq⟩ : ∃ q, isPrt c = q := ⟨_, rfl⟩
    have HQ := Lib.hid hq
    clear hq
    cases q
    · have HM2 : Hid (bigM d c = ⟨{ tk0 with k := 3, b := I }, d.size + 1, 0⟩) := Lib.hid (by rw [HM.out, HQ.out]; rfl)
      clear HM
      go_enter Tryd.func57, Tryd.ntmps57
      go_wp2_with (first | (go_at_call 63; (with_reducible refine (Bg.parse_c d _ (by omega)).mono ?_); rintro e w1 ⟨A1, c1, rfl, q1, q2, q3, ⟨x1, rfl⟩, q4⟩; have Q1 := Lib.hid q1; have Q2 := Lib.hid q2; have Q3 := Lib.hid q3; have Q4 := Lib.hid q4; clear q1 q2 q3 q4; rw [HE.out, HI.out]) | (go_at_call 29; (with_reducible refine (isPrt_c c hc _).mono ?_); rintro e w1 ⟨rfl, rfl⟩; rw [HQ.out]))
      go_returns
      rw [HM2.out]
      have q1 := Q1.out
      have q2 := Q2.out
      have q3 := Q3.out
      have q4 := Q4.out
      rw [HI.out] at q1 q3 q4
      refine RetTok.big (lim_exc (b := w.heap.size) (q3.alloc (.cells #[.bool (decide (I < 0)), .slice A1 (Bg.dig I.natAbs).length c1] 34)) ?ze ?zn) q1 q2 (ty_exc_lim (b := w.heap.size) (q3.alloc (.cells #[.bool (decide (I < 0)), .slice A1 (Bg.dig I.natAbs).length c1] 34)) (ty_plus q4 ((Plus.refl _).alloc _)) ?zf ?zm) ?zp
      case ze => repeat' (first | exact Exc.base _ _ _ | refine Exc.alloc ?_ _ | refine Exc.plus ?_ _ | refine Exc.drew ?_ | refine Exc.drewN ?_ _)
      case zn => exact noInt_of (C := #[.int .i64 0, .string ⟨#[]⟩, .slice none 0 0, .int .i64 0, .int .i64 0, .bool false, .slice none 0 0, .int .i64 0, .bool false]) (fun i => by simp only [go_sem]) rfl
      case zm => exact noInt_of (C := #[.int .i64 0, .string ⟨#[]⟩, .slice none 0 0, .int .i64 0, .int .i64 0, .bool false, .slice none 0 0, .int .i64 0, .bool false]) (fun i => by simp only [go_sem]) rfl
      case zf => repeat' (first | exact Exc.base _ _ _ | refine Exc.alloc ?_ _ | refine Exc.plus ?_ _ | refine Exc.drew ?_ | refine Exc.drewN ?_ _)
      case zp => repeat' (first | exact Plus.refl _ | refine Plus.alloc ?_ _ | refine Plus.plus ?_ _ | refine Plus.drew ?_ | refine Plus.drewN ?_ _)
    · have HM2 : Hid (bigM d c = flt 5) := Lib.hid (by rw [HM.out, HQ.out]; rfl)
      clear HM
      go_enter Tryd.func57, Tryd.ntmps57
      go_wp2_with (first | (go_at_call 63; (with_reducible refine (Bg.parse_c d _ (by omega)).mono ?_); rintro e w1 ⟨A1, c1, rfl, q1, q2, q3, ⟨x1, rfl⟩, q4⟩; have Q1 := Lib.hid q1; have Q2 := Lib.hid q2; have Q3 := Lib.hid q3; have Q4 := Lib.hid q4; clear q1 q2 q3 q4; rw [HE.out, HI.out]) | (go_at_call 29; (with_reducible refine (isPrt_c c hc _).mono ?_); rintro e w1 ⟨rfl, rfl⟩; rw [HQ.out]) | (go_at_call 50; (with_reducible refine (fault_c _ _).mono ?_); rintro e w1 ⟨rfl, ⟨x3, rfl⟩⟩))
      go_returns
      rw [HM2.out]
      exact RetTok.er (by repeat' (first | exact Plus.refl _ | refine Plus.alloc ?_ _ | refine Plus.plus ?_ _ | refine Plus.drew ?_ | refine Plus.drewN ?_ _))
  · have b1 : (E != 0) = true := by simp; omega
    have HN := Lib.hid h0
    clear h0
    go_enter Tryd.func57, Tryd.ntmps57
    go_wp2_with (first | (go_at_call 63; (with_reducible refine (Bg.parse_c d _ (by omega)).mono ?_); rintro e w1 ⟨A1, c1, rfl, q1, q2, q3, ⟨x1, rfl⟩, q4⟩; have Q1 := Lib.hid q1; have Q2 := Lib.hid q2; have Q3 := Lib.hid q3; have Q4 := Lib.hid q4; clear q1 q2 q3 q4; rw [HE.out, HI.out]) | (go_at_call 50; (with_reducible refine (fault_c _ _).mono ?_); rintro e w1 ⟨rfl, ⟨x3, rfl⟩⟩))
    go_returns
    rw [HM.out, if_neg HN.out]
    exact RetTok.er (by repeat' (first | exact Plus.refl _ | refine Plus.alloc ?_ _ | refine Plus.plus ?_ _ | refine Plus.drew ?_ | refine Plus.drewN ?_ _))
end Go.Proofs.YtaigkjffglbknaaDoor
