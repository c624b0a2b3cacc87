/- The document's relations in memory; its From; the stages of its closure. -/
import Derived.WalkKit
import Derived.WalkSpells
import Derived.WalkLawsBesides
import Derived.Handy
import Derived.Deep.RegionHeld3
import Derived.Deep.DeepCutAuto
import Derived.Deep.QuietTactic
import Derived.BigQuiet
import Derived.Lib.Hide
import Derived.KernelRfl
import Derived.WalkMore
import Derived.Deep.LoopGhost
import Derived.IntWalk
import Derived.Deep.RegionLaw
import Derived.RangeFuncBox
import Derived.Test.YtmfdlcicbiincaaDoorE13
import Derived.Test.YtmfdlcicbiincaaDoorK2
import Derived.Test.YtmfdlcicbiincaaDoorK6
import Derived.Test.YtmfdlcicbiincaaDoorK7
import Derived.Test.YtmfdlcicbiincaaDoorR5s
import Derived.Test.YtmfdlcicbiincaaDoorR9
import Derived.Test.YtmfdlcicbiincaaDoorK8
import Derived.Test.YtmfdlcicbiincaaDoorL5m
import Derived.Test.YtmfdlcicbiincaaDoorR2
import Derived.Test.YtmfdlcicbiincaaDoorK12
import Derived.Test.YtmfdlcicbiincaaDoorK13
import Derived.Test.YtmfdlcicbiincaaDoorK17
namespace Go.Proofs.YtmfdlcicbiincaaDoor

section
open Go.RowKit


/-- Block h holds the truths s. -/
def RwB (w : World) (h n : Nat) (s : Nat → Bool) : Prop := ∃ cur e, w.heap[h]? = some (.cells cur e (0, 0)) ∧ ∀ j, j < n → cur[j]? = some (.bool (s j))
/-- The first i cells of block g are rows. -/
def Tp (w : World) (g n i : Nat) (hs : List Nat) : Prop := ∃ cur e, w.heap[g]? = some (.cells cur e (0, 0)) ∧ cur.size = n ∧ ∀ k, k < i → cur[k]? = some (.slice (some ⟨hs.getD k 0, 0, none⟩) n n)
section
variable {w w' : World} {h n : Nat} {s : Nat → Bool}
theorem RwB.lt (H : RwB w h n s) : h < w.heap.size := by
  obtain ⟨cur, e, hh, _⟩ := H
  exact (Array.getElem?_eq_some_iff.1 hh).1
theorem RwB.cell (H : RwB w h n s) {j : Nat} (hj : j < n) : w.cell? ⟨h, j, none⟩ = some (.bool (s j)) := by
  obtain ⟨cur, e, hh, hc⟩ := H
  rw [cell_of_row w h j cur e (0, 0) hh]
  exact hc j hj
theorem RwB.frozen (H : RwB w h n s) (j : Nat) : w.frozen? ⟨h, j, none⟩ = false := by
  obtain ⟨cur, e, hh, _⟩ := H
  simp [World.frozen?, hh]
theorem RwB.block (H : RwB w h n s) (hk : w'.heap[h]? = w.heap[h]?) : RwB w' h n s := by
  obtain ⟨cur, e, hh, hc⟩ := H
  exact ⟨cur, e, hk.trans hh, hc⟩
theorem RwB.plus (H : RwB w h n s) (hp : Plus w w') : RwB w' h n s := H.block (hp.below.block h H.lt)
theorem RwB.other (H : RwB w h n s) {g i : Nat} {v : Value} (hg : h ≠ g) : RwB (w.setCell ⟨g, i, none⟩ v) h n s := H.block (Below.heap_setCell _ _ _ _ hg)
theorem RwB.set (H : RwB w h n s) {b : Nat} {v : Bool} (hb : b < n) : RwB (w.setCell ⟨h, b, none⟩ (.bool v)) h n (fun j => if j = b then v else s j) := by
  obtain ⟨cur, e, hh, hc⟩ := H
  refine ⟨cur.setIfInBounds b (.bool v), e, by simp [World.setCell, Array.getElem?_modify, hh], fun i hi => ?_⟩
  rw [Array.getElem?_setIfInBounds]
  by_cases hib : b = i
  · subst hib
    have hlt : b < cur.size := (Array.getElem?_eq_some_iff.1 (hc b hb)).1
    rw [if_pos rfl, if_pos hlt]
    simp
  · rw [if_neg hib, hc i hi]
    show Option.some (Value.bool (s i)) = Option.some (Value.bool (if i = b then v else s i))
    rw [if_neg (fun e => hib e.symm)]
theorem RwB.ext {s2 : Nat → Bool} (H : RwB w h n s) (he : ∀ j, j < n → s j = s2 j) : RwB w h n s2 := by
  obtain ⟨cur, e, hh, hc⟩ := H
  exact ⟨cur, e, hh, fun j hj => by rw [hc j hj, he j hj]⟩
theorem RwB.new (w : World) (n : Nat) (cs : Array Value) (t : TypeId) (hc : cs = Array.replicate n (.bool false)) : RwB (w.alloc (.cells cs t)) w.heap.size n (fun _ => false) := by
  subst hc
  refine ⟨_, t, heap_alloc_new w _, fun j hj => ?_⟩
  rw [Array.getElem?_replicate, if_pos hj]
end
section
variable {w w' : World} {g n i : Nat} {hs : List Nat}
theorem Tp.lt (H : Tp w g n i hs) : g < w.heap.size := by
  obtain ⟨cur, e, hh, _⟩ := H
  exact (Array.getElem?_eq_some_iff.1 hh).1
theorem Tp.frozen (H : Tp w g n i hs) (j : Nat) : w.frozen? ⟨g, j, none⟩ = false := by
  obtain ⟨cur, e, hh, _⟩ := H
  simp [World.frozen?, hh]
theorem Tp.cell (H : Tp w g n i hs) {k : Nat} (hk : k < i) : w.cell? ⟨g, k, none⟩ = some (.slice (some ⟨hs.getD k 0, 0, none⟩) n n) := by
  obtain ⟨cur, e, hh, _, hc⟩ := H
  rw [cell_of_row w g k cur e (0, 0) hh]
  exact hc k hk
theorem Tp.full (H : Tp w g n i hs) {k : Nat} (hk : k < n) : ∃ v, w.cell? ⟨g, k, none⟩ = some v := by
  obtain ⟨cur, e, hh, hs', _⟩ := H
  refine ⟨cur[k]'(by omega), ?_⟩
  rw [cell_of_row w g k cur e (0, 0) hh]
  exact Array.getElem?_eq_getElem _
theorem Tp.block (H : Tp w g n i hs) (hk : w'.heap[g]? = w.heap[g]?) : Tp w' g n i hs := by
  obtain ⟨cur, e, hh, hc⟩ := H
  exact ⟨cur, e, hk.trans hh, hc⟩
theorem Tp.plus (H : Tp w g n i hs) (hp : Plus w w') : Tp w' g n i hs := H.block (hp.below.block g H.lt)
theorem Tp.other (H : Tp w g n i hs) {h j : Nat} {v : Value} (hg : g ≠ h) : Tp (w.setCell ⟨h, j, none⟩ v) g n i hs := H.block (Below.heap_setCell _ _ _ _ hg)
theorem Tp.push (H : Tp w g n i hs) (hl : hs.length = i) (hi : i < n) (h : Nat) : Tp (w.setCell ⟨g, i, none⟩ (.slice (some ⟨h, 0, none⟩) n n)) g n (i + 1) (hs ++ [h]) := by
  obtain ⟨cur, e, hh, hsz, hc⟩ := H
  refine ⟨cur.setIfInBounds i (.slice (some ⟨h, 0, none⟩) n n), e, by simp [World.setCell, Array.getElem?_modify, hh], by rw [Array.size_setIfInBounds]; exact hsz, fun k hk => ?_⟩
  rw [Array.getElem?_setIfInBounds, getD_snoc, hl]
  by_cases hik : i = k
  · subst hik
    rw [if_pos rfl, if_pos (by omega), if_neg (by omega), if_pos rfl]
  · rw [if_neg hik, if_pos (by omega)]
    exact hc k (by omega)
end
/-- The slice at block g is the relation R. -/
structure Mx (w : World) (B g n : Nat) (R : Nat → Nat → Bool) (hs : List Nat) : Prop where
  top : Tp w g n n hs
  len : hs.length = n
  nd : hs.Nodup
  low : ∀ h ∈ hs, B ≤ h ∧ h < w.heap.size
  gB : B ≤ g
  gn : g ∉ hs
  rows : ∀ a, a < n → RwB w (hs.getD a 0) n (R a)
section
variable {w w' : World} {B g n : Nat} {R : Nat → Nat → Bool} {hs : List Nat}
theorem Mx.plus (H : Mx w B g n R hs) (hp : Plus w w') : Mx w' B g n R hs := ⟨H.top.plus hp, H.len, H.nd, fun h hh => ⟨(H.low h hh).1, Nat.lt_of_lt_of_le (H.low h hh).2 hp.below.size⟩, H.gB, H.gn, fun a ha => (H.rows a ha).plus hp⟩
theorem Mx.ext {R2 : Nat → Nat → Bool} (H : Mx w B g n R hs) (he : ∀ a b, a < n → b < n → R a b = R2 a b) : Mx w B g n R2 hs := ⟨H.top, H.len, H.nd, H.low, H.gB, H.gn, fun a ha => (H.rows a ha).ext fun j hj => he a j ha hj⟩
theorem Mx.base {B2 : Nat} (H : Mx w B g n R hs) (hb : B2 ≤ B) : Mx w B2 g n R hs := ⟨H.top, H.len, H.nd, fun h hh => ⟨Nat.le_trans hb (H.low h hh).1, (H.low h hh).2⟩, Nat.le_trans hb H.gB, H.gn, H.rows⟩
theorem Mx.mem (H : Mx w B g n R hs) {a : Nat} (ha : a < n) : hs.getD a 0 ∈ hs := by
  rw [List.getD_eq_getElem?_getD, List.getElem?_eq_getElem (by rw [H.len]; exact ha)]
  exact List.getElem_mem _
/-- What a walk wants of row a. -/
theorem Mx.at_ (H : Mx w B g n R hs) {a : Nat} (ha : a < n) : ∃ h, Hid (h = hs.getD a 0) ∧ w.cell? ⟨g, a, none⟩ = some (.slice (some ⟨h, 0, none⟩) n n) ∧ g < w.heap.size ∧ h < w.heap.size ∧ RwB w h n (R a) ∧ B ≤ h ∧ h ≠ g := ⟨_, Lib.hid rfl, H.top.cell ha, H.top.lt, (H.low _ (H.mem ha)).2, H.rows a ha, (H.low _ (H.mem ha)).1, fun e => H.gn (by rw [← e]; exact H.mem ha)⟩
/-- A truth written. -/
def upd (R : Nat → Nat → Bool) (a b : Nat) (v : Bool) : Nat → Nat → Bool := fun x y => if x = a ∧ y = b then v else R x y
theorem Mx.set (H : Mx w B g n R hs) {a b h : Nat} {v : Bool} (ha : a < n) (hb : b < n) (hh : h = hs.getD a 0) : Mx (w.setCell ⟨h, b, none⟩ (.bool v)) B g n (upd R a b v) hs := by
  subst hh
  refine ⟨H.top.other (fun e => H.gn (by rw [e]; exact H.mem ha)), H.len, H.nd, fun h hh => ⟨(H.low h hh).1, by rw [World.size_setCell]; exact (H.low h hh).2⟩, H.gB, H.gn, fun x hx => ?_⟩
  by_cases e : x = a
  · subst e
    refine ((H.rows x hx).set hb).ext fun j _ => ?_
    unfold upd
    by_cases e2 : j = b
    · rw [if_pos e2, if_pos ⟨rfl, e2⟩]
    · rw [if_neg e2, if_neg (fun q => e2 q.2)]
  · refine ((H.rows x hx).other (fun q => e (getD_inj H.nd (by rw [H.len]; exact hx) (by rw [H.len]; exact ha) q))).ext fun j _ => ?_
    unfold upd
    rw [if_neg (fun q => e q.1)]
end
theorem infoSB : (Tryd.prog.info? 60).map (fun i => (i.zero, i.size, i.bytes)) = some (some (.slice none 0 0), 1, 24) := by kernel_rfl
theorem infoBo : (Tryd.prog.info? 4).map (fun i => (i.zero, i.size, i.bytes)) = some (some (.bool false), 1, 1) := by kernel_rfl
theorem madeBo (K : Nat) : madeCells #[.bool false] K = Array.replicate K (.bool false) := by
  apply Array.toList_inj.1
  rw [toList_madeCells_one]
  simp
theorem madeSB (K : Nat) : madeCells #[.slice none 0 0] K = Array.replicate K (.slice none 0 0) := by
  apply Array.toList_inj.1
  rw [toList_madeCells_one]
  simp
/-- Where the making stands. -/
def EmR (w : World) (n : Nat) (s4 : Value) (wr : World) : Prop := ∃ (i : Nat) (hs : List Nat), s4 = .int .i64 i ∧ i ≤ n ∧ hs.length = i ∧ hs.Nodup ∧ (∀ h ∈ hs, w.heap.size < h ∧ h < wr.heap.size) ∧ Tp wr w.heap.size n i hs ∧ (∀ a, a < i → RwB wr (hs.getD a 0) n (fun _ => false)) ∧ Below w.heap.size w wr
set_option maxRecDepth 100000 in
set_option maxHeartbeats 4000000 in
theorem empty_c {n : Nat} (w : World) (hn : n ≤ 1000) : Calls Tryd.prog 50 #[.int .i64 n] w fun e w' => ∃ hs, e = .returned (.slice (some ⟨w.heap.size, 0, none⟩) n n) ∧ Mx w' w.heap.size w.heap.size n (fun _ _ => false) hs ∧ Plus w w' := by
  have hm1 := run_make_row' (P := Tryd.prog) 36 60 (.slice none 0 0) 24 Tryd.underlying36 infoSB rfl .i64 .i64 n (by omega) (by omega)
  have hm2 := run_make_row' (P := Tryd.prog) 60 4 (.bool false) 1 Tryd.underlying60 infoBo rfl .i64 .i64 n (by omega) (by omega)
  go_enter Tryd.func50, Tryd.ntmps50
  go_wp2
  go_loopw [4] (fun s4 wr => EmR w n s4 wr) (fun s4 _ => ((n : Int) - intOf s4).toNat)
  case atStart => exact ⟨0, [], rfl, Nat.zero_le _, rfl, List.nodup_nil, fun _ h => absurd h (by simp), ⟨_, _, heap_alloc_new w _, by rw [madeSB]; simp, fun k h => absurd h (by omega)⟩, fun a h => absurd h (by omega), (Below.refl _ _).alloc (Nat.le_refl _) _⟩
  case round =>
    obtain ⟨i, hs, rfl, hi, hl, hnd, hlow, hT, hrows, hB⟩ := hrel
    by_cases hlt : i < n
    · have hlt' : (i : Int) < n := by omega
      obtain ⟨v0, hv0⟩ := hT.full hlt
      have hf := hT.frozen i
      have hlg := hT.lt
      have HT2 := Lib.hid ((hT.push hl hlt wr.heap.size).plus (Plus.alloc (Plus.refl _) (.cells (madeCells #[.bool false] n) 4)))
      have HR := Lib.hid hrows
      have HL := Lib.hid hlow
      have HBB := Lib.hid hB
      have HND := Lib.hid hnd
      have HLN := Lib.hid hl
      haveI : Old w.heap.size wr := ⟨hlg⟩
      clear hT hrows hlow hB hnd hl
      go_wp2_with fail
      go_roundw
      case rel =>
        refine ⟨i + 1, hs ++ [wr.heap.size], int_eq (by omega), by omega, by rw [List.length_append, HLN.out]; rfl, ?_, fun h hh => ?_, HT2.out, fun a ha => ?_, ?_⟩
        · rw [List.nodup_append]
          refine ⟨HND.out, by simp, fun a ha b hb => ?_⟩
          obtain rfl := List.mem_singleton.1 hb
          have := (HL.out a ha).2
          omega
        · rw [World.size_alloc, World.size_setCell]
          rcases List.mem_append.1 hh with q | q
          · have := HL.out h q
            omega
          · obtain rfl := List.mem_singleton.1 q
            omega
        · rw [getD_snoc, HLN.out]
          by_cases ha2 : a < i
          · rw [if_pos ha2]
            have hm : hs.getD a 0 ∈ hs := by
              rw [List.getD_eq_getElem?_getD, List.getElem?_eq_getElem (by rw [HLN.out]; exact ha2)]
              exact List.getElem_mem _
            exact ((HR.out a ha2).other (by have := (HL.out _ hm).1; omega)).plus (Plus.alloc (Plus.refl _) _)
          · rw [if_neg ha2, if_pos (by omega)]
            have q := RwB.new (wr.setCell ⟨w.heap.size, i, none⟩ (.slice (some ⟨wr.heap.size, 0, none⟩) n n)) n _ 4 (madeBo n)
            rw [World.size_setCell] at q
            exact q
        · exact (HBB.out.setCell (p := ⟨w.heap.size, i, none⟩) (Nat.le_refl _) _).alloc (by rw [World.size_setCell]; exact HBB.out.size) _
      case measure => simp [intOf]; omega
    · obtain rfl : n = i := by omega
      go_wp2_with fail
      go_returns
      exact ⟨hs, rfl, ⟨hT, hl, hnd, fun h hh => ⟨Nat.le_of_lt (hlow h hh).1, (hlow h hh).2⟩, Nat.le_refl _, fun hh => Nat.lt_irrefl _ (hlow _ hh).1, hrows⟩, Plus.of_below hB⟩
end

section
open Go.RowKit


def tkB (fs : List Int) (a i : Nat) : Bool := decide ((a : Int) ∈ fs.take i)
theorem tkB_succ {fs : List Int} {a i : Nat} (hi : i < fs.length) : tkB fs a (i + 1) = (tkB fs a i || fs.getD i 0 == (a : Int)) := by
  unfold tkB
  rw [take_int hi]
  obtain ⟨x, hu⟩ : ∃ u, fs.getD i 0 = u := ⟨_, rfl⟩
  rw [hu]
  by_cases h1 : (a : Int) ∈ fs.take i
  · simp [h1]
  · by_cases h2 : (a : Int) = x
    · subst h2; simp
    · have h3 : (x == (a : Int)) = false := by simp; exact fun e => h2 e.symm
      simp [h1, h2, h3]
theorem tkB_all {l : List Ev} {a b : Nat} (hb : b < l.length) : tkB (l.getD b default).f a (l.getD b default).f.length = frmB l a b := by
  unfold tkB frmB
  rw [List.take_length]
  simp [hb]
/-- A relation that a call made. -/
def RetMx (n : Nat) (R : Nat → Nat → Bool) (w : World) (e : Ending) (w' : World) : Prop := ∃ g hs, e = .returned (.slice (some ⟨g, 0, none⟩) n n) ∧ Mx w' w.heap.size g n R hs ∧ Plus w w'
def FoR (l : List Ev) (b : Nat) : Nat → Nat → Bool := fun x y => decide (y < b) && frmB l x y
def FiR (l : List Ev) (fs : List Int) (b i : Nat) : Nat → Nat → Bool := fun x y => FoR l b x y || (decide (y = b) && tkB fs x i)
set_option maxRecDepth 100000 in
set_option maxHeartbeats 4000000 in
theorem rfrom_t {l : List Ev} {ps : List Pr} {A B : Option Addr} {n c m d : Nat} (w : World) (H : Lg w l ps A n c B m d) (HM0 : Hid (MayR l ps true)) (HMM : Hid (MayP l ps)) (HSM : Hid (SmL l)) : Calls Tryd.prog 15 #[.agg #[.slice A n c, .slice B m d]] w (RetMx n (frmB l) w) := by
  have hn : n ≤ 1000 := by rw [H.len.1]; exact HMM.out.1
  have HLN := Lib.hid H.len.1
  obtain ⟨rs, hrl, hes⟩ := H.ev
  have HES := Lib.hid hes
  have HRL := Lib.hid hrl
  have hcap := hes.cap
  have hmx := hes.max
  have HLG := Lib.hid H
  clear hes hrl H
  go_enter Tryd.func15, Tryd.ntmps15
  go_wp2_with (first | (go_at_call 49; (with_reducible refine (rmay_s _ HM0 HSM (HLG.out.plus (by repeat' (first | exact Plus.refl _ | refine Plus.alloc ?_ _ | refine Plus.plus ?_ _ | refine Plus.drew ?_ | refine Plus.drewN ?_ _)))).mono ?_); rintro e xw ⟨rfl, ⟨ym, rfl⟩⟩) | (go_at_call 50; (with_reducible refine (empty_c _ hn).mono ?_); rintro e xw ⟨hs, rfl, hMx, ⟨x1, rfl⟩⟩; have HMX := Lib.hid hMx; clear hMx))
  obtain ⟨W0, hW0⟩ : ∃ W0, plus (w.alloc (.cells #[.slice A n c, .slice B m d] 30)) ym = W0 := ⟨_, rfl⟩
  have hBX : Bt 30 W0 w.heap.size (.slice A n c) (.slice B m d) := by rw [← hW0]; exact (bt_new w _ _ _ rfl).plus (by repeat' (first | exact Plus.refl _ | refine Plus.alloc ?_ _ | refine Plus.plus ?_ _ | refine Plus.drew ?_ | refine Plus.drewN ?_ _))
  have hP0 : Plus w W0 := by rw [← hW0]; exact (by repeat' (first | exact Plus.refl _ | refine Plus.alloc ?_ _ | refine Plus.plus ?_ _ | refine Plus.drew ?_ | refine Plus.drewN ?_ _))
  have hmx0 := HMX.out
  have hsz : W0.heap.size = w.heap.size + 1 + ym.blocks.length := by rw [← hW0]; simp [go_sem]
  first
    | rw [hW0] at hmx0 ⊢
    | (have hW2 := hW0; simp only [plus_plus] at hW2 hmx0 ⊢; rw [hW2] at hmx0 ⊢)
  rw [← hsz]
  have hzw : w.heap.size ≤ W0.heap.size := hP0.below.size
  clear hW0 hsz HMX
  obtain ⟨g, hg⟩ : ∃ g, W0.heap.size = g := ⟨_, rfl⟩
  have c0 := hBX.c0
  haveI : Old w.heap.size W0 := ⟨hBX.lt⟩
  have HBX := Lib.hid hBX
  have HMX0 : Hid (Mx (plus W0 x1) W0.heap.size g n (fun _ _ => false) hs) := Lib.hid (by rw [← hg]; exact hmx0)
  rw [hg]
  clear hg
  clear hBX hmx0
  go_loopw [4] (fun s4 wr => ∃ b : Nat, s4 = .int .i64 b ∧ b ≤ n ∧ Hid (Mx wr W0.heap.size g n (FoR l b) hs) ∧ Below W0.heap.size W0 wr) (fun s4 _ => ((n : Int) - intOf s4).toNat)
  case atStart => exact ⟨0, rfl, Nat.zero_le _, Lib.hid (HMX0.out.ext fun a b _ _ => by simp [FoR]), Plus.below (Plus.is x1)⟩
  case round =>
    obtain ⟨b, rfl, hb, HM, hB⟩ := hrel
    clear HMX0
    obtain ⟨x0, rfl⟩ := Plus.of_below hB
    by_cases hlt : b < n
    · have hlt' : (b : Int) < n := by omega
      obtain ⟨g1, o1, e1, rfl, hx1, hm1, hM1, q0, q1, q2, q3, q4, q5, q6, q7, q8, q9⟩ := (HES.out.plus hP0).at_ hlt
      have u1 := getD_map (show b < rs.length by rw [← HES.out.len]; exact hlt) hx1
      rw [HRL.out] at u1
      have hadd1 := add_addr g1 o1 (b * 10)
      have lg1 : g1 < W0.heap.size := by
        obtain ⟨g2, o2, e, q, _⟩ := (HES.out.plus hP0).rd (by rw [← HES.out.len]; omega)
        injection e with e
        injection e with e _ _
        rw [e]
        exact q
      haveI : Old g1 W0 := ⟨lg1⟩
      obtain ⟨e1, R1, cr1, X1, cw1, F1, cf1⟩ := e1
      simp only at q0 q1 q2 q3 q4 q5 q6 q7 q8 q9 u1
      have HU1 := Lib.hid u1
      have HF := Lib.hid (show Ar .i64 W0 F1 e1.f e1.f.length cf1 from hM1.ef)
      have hfc := HF.out.cap
      have hfm := HF.out.max
      clear hx1 hm1 hM1 u1
      go_wp2_with fail
      go_loopw [5] (fun s5 wr => ∃ i : Nat, s5 = .int .i64 i ∧ i ≤ e1.f.length ∧ Hid (Mx wr W0.heap.size g n (FiR l e1.f b i) hs) ∧ Below W0.heap.size W0 wr) (fun s5 _ => ((e1.f.length : Int) - intOf s5).toNat)
      case atStart => exact ⟨0, rfl, Nat.zero_le _, Lib.hid (HM.out.ext fun a b _ _ => by simp [FiR, tkB]), hB⟩
      case round =>
        obtain ⟨i, rfl, hi, HMI, hBi⟩ := hrel
        obtain ⟨xi, rfl⟩ := Plus.of_below hBi
        by_cases hil : i < e1.f.length
        · have hil' : (i : Int) < e1.f.length := by omega
          obtain ⟨fg, fo, rfl, hfg, hfat⟩ := HF.out.rd.at_ hil
          have hcf := hfat i hil
          obtain ⟨fi, hfi⟩ : ∃ v, e1.f.getD i 0 = v := ⟨_, rfl⟩
          have hfr := from_lt HMM.out (show b < l.length by rw [← HLN.out]; exact hlt) (i := i) (by rw [HU1.out]; exact hil)
          rw [HU1.out, hfi] at hfr
          have hsu := fun a => tkB_succ (a := a) hil
          rw [hfi] at hcf hsu
          have HSU := Lib.hid hsu
          have haddf := add_addr fg fo i
          haveI : Old fg W0 := ⟨hfg⟩
          clear hfi hfat hsu
          by_cases hf1 : fi = -1
          · have HMN := Lib.hid (HMI.out.ext (R2 := FiR l e1.f b (i + 1)) fun a y _ _ => by
              unfold FiR
              rw [HSU.out a]
              have e : (fi == (a : Int)) = false := beq_false_of_ne (by omega)
              rw [e, Bool.or_false])
            subst hf1
            go_wp2_with fail
            go_roundw
            case rel => exact ⟨i + 1, int_eq (by omega), by omega, HMN, hBi⟩
            case measure => simp [intOf]; omega
          · obtain ⟨y, rfl⟩ : ∃ y : Nat, fi = (y : Int) := ⟨fi.toNat, by omega⟩
            have hyn : y < n := by omega
            have hyn' : (y : Int) < n := by omega
            have hy0 : (0 : Int) ≤ (y : Int) := by omega
            obtain ⟨h, hh, hcy, hgl, hhl, hrow, hhB, hne⟩ := HMI.out.at_ hyn
            have hcb := hrow.cell hlt
            have hfb := hrow.frozen b
            have HMN := Lib.hid ((HMI.out.set (v := true) hyn hlt hh.out).ext (R2 := FiR l e1.f b (i + 1)) fun a z _ _ => by
              unfold upd FiR
              rw [HSU.out a]
              by_cases e : a = y ∧ z = b
              · obtain ⟨rfl, rfl⟩ := e
                rw [if_pos ⟨rfl, rfl⟩]
                simp
              · rw [if_neg e]
                by_cases e2 : z = b
                · have e3 : ((y : Int) == (a : Int)) = false := beq_false_of_ne (fun q => e ⟨by omega, e2⟩)
                  rw [e3, Bool.or_false]
                · have e3 : decide (z = b) = false := decide_eq_false e2
                  rw [e3, Bool.false_and, Bool.false_and])
            have HBN := Lib.hid (hBi.setCell (p := ⟨h, b, none⟩) hhB (.bool true))
            clear hrow
            go_wp2_with fail
            go_roundw
            case rel => exact ⟨i + 1, int_eq (by omega), by omega, HMN, HBN.out⟩
            case measure => simp [intOf]; omega
        · obtain rfl : i = e1.f.length := by omega
          have HMN := Lib.hid (HMI.out.ext (R2 := FoR l (b + 1)) fun a y _ hy => by
            unfold FiR FoR
            have q := tkB_all (l := l) (a := a) (b := b) (by rw [← HLN.out]; exact hlt)
            rw [HU1.out] at q
            rw [q]
            by_cases e : y = b
            · subst e
              simp
            · have e3 : decide (y = b) = false := decide_eq_false e
              have e4 : decide (y < b + 1) = decide (y < b) := by rw [decide_eq_decide]; omega
              rw [e3, e4, Bool.false_and, Bool.or_false])
          go_wp2_with fail
          go_roundw
          case rel => exact ⟨b + 1, int_eq (by omega), by omega, HMN, hBi⟩
          case measure => simp [intOf]; omega
    · obtain rfl : n = b := by omega
      go_wp2_with fail
      go_returns
      exact ⟨_, hs, rfl, (HM.out.base hzw).ext fun a y ha hy => by
        unfold FoR
        rw [decide_eq_true hy, Bool.true_and], hP0.trans (Plus.is x0)⟩
set_option maxRecDepth 100000 in
set_option maxHeartbeats 4000000 in
theorem rfrom_f {l : List Ev} {ps : List Pr} {A B : Option Addr} {n c m d : Nat} (w : World) (H : Lg w l ps A n c B m d) (HM0 : Hid (MayR l ps false)) (HSM : Hid (SmL l)) : Calls Tryd.prog 15 #[.agg #[.slice A n c, .slice B m d]] w fun e w' => e = .returned (.slice none 0 0) ∧ Plus w w' := by
  have HLG := Lib.hid H
  clear H
  go_enter Tryd.func15, Tryd.ntmps15
  go_wp2_with (first | (go_at_call 49; (with_reducible refine (rmay_s _ HM0 HSM (HLG.out.plus (by repeat' (first | exact Plus.refl _ | refine Plus.alloc ?_ _ | refine Plus.plus ?_ _ | refine Plus.drew ?_ | refine Plus.drewN ?_ _)))).mono ?_); rintro e xw ⟨rfl, ⟨ym, rfl⟩⟩))
  go_returns
  exact ⟨rfl, (by repeat' (first | exact Plus.refl _ | refine Plus.alloc ?_ _ | refine Plus.plus ?_ _ | refine Plus.drew ?_ | refine Plus.drewN ?_ _))⟩
end

section
open Go.RowKit


/-- What stands after c events have been gone through. -/
def wsB (l : List Ev) (ps : List Pr) : Nat → Nat → Nat → Bool
  | 0, a, b => oneB l ps a b
  | c + 1, a, b => wsB l ps c a b || (decide (a < c ∧ c < b) && (wsB l ps c a c && wsB l ps c c b))
section
variable {l : List Ev} {ps : List Pr} {a b c d : Nat}
theorem ws_mono (h : c ≤ d) (k : wsB l ps c a b = true) : wsB l ps d a b = true := by
  induction h with
  | refl => exact k
  | step _ ih => exact Bool.or_eq_true_iff.2 (.inl ih)
theorem TrG.last {E : Nat → Nat → Bool} (h : TrG E a b) : E a b = true ∨ ∃ k, TrG E a k ∧ E k b = true := by
  induction h with
  | one h => exact .inl h
  | step h k ih =>
    rcases ih with q | ⟨k, q1, q2⟩
    · exact .inr ⟨_, .one h, q⟩
    · exact .inr ⟨k, .step h q1, q2⟩
theorem one_of_edg (h : MayP l ps) (k : edgB l ps a b = true) : oneB l ps a b = true := by
  have f := edg_fwd h _ _ k
  unfold edgB at k
  unfold oneB
  simp only [Bool.and_eq_true, decide_eq_true_eq, Bool.or_eq_true] at k ⊢
  rcases k with k | k
  · exact ⟨f.1, .inr k⟩
  · exact ⟨f.1, .inl (stp_one k).1⟩
theorem bef_of_one (h : MayP l ps) (hb : b < l.length) (k : oneB l ps a b = true) : befB l ps a b = true := by
  rw [bef_goes h hb, k]
  rfl
theorem bef_trans (k1 : befB l ps a c = true) (k2 : befB l ps c b = true) : befB l ps a b = true := cloB_iff.2 ((cloB_iff.1 k1).trans (cloB_iff.1 k2))
theorem ws_sound (h : MayP l ps) : ∀ (c a b : Nat), b < l.length → wsB l ps c a b = true → befB l ps a b = true
  | 0, a, b, hb, k => bef_of_one h hb k
  | c + 1, a, b, hb, k => by
    unfold wsB at k
    simp only [Bool.or_eq_true, Bool.and_eq_true, decide_eq_true_eq] at k
    rcases k with k | ⟨k1, k2, k3⟩
    · exact ws_sound h c a b hb k
    · exact bef_trans (ws_sound h c a c (by omega) k2) (ws_sound h c c b hb k3)
theorem ws_full (h : MayP l ps) : ∀ (n b : Nat), b ≤ n → ∀ a c, b ≤ c → befB l ps a b = true → wsB l ps c a b = true
  | 0, b, hb, a, c, _, k => absurd (bef_lt h k) (by omega)
  | n + 1, b, hb, a, c, hc, k => by
    rcases (cloB_iff.1 k).last with q | ⟨d, q1, q2⟩
    · exact ws_mono (Nat.zero_le _) (one_of_edg h q)
    · have f := (edg_fwd h _ _ q2).1
      have g := q1.fwd (edg_fwd h)
      have r1 := ws_full h n d (by omega) a d (Nat.le_refl _) (cloB_iff.2 q1)
      have r2 : wsB l ps d d b = true := ws_mono (Nat.zero_le _) (one_of_edg h q2)
      refine ws_mono (c := d + 1) (by omega) ?_
      unfold wsB
      rw [r1, r2, decide_eq_true ⟨g.1, f⟩]
      simp
/-- At its end it is happens-before. -/
theorem ws_bef (h : MayP l ps) {n : Nat} (hn : n = l.length) (hb : b < n) : wsB l ps n a b = befB l ps a b := by
  cases q : wsB l ps n a b
  · cases r : befB l ps a b
    · rfl
    · rw [ws_full h b b (Nat.le_refl _) a n (by omega) r] at q
      cases q
  · rw [ws_sound h n a b (by omega) q]
end
/-- The first two loops: y is gone through up to b, x up to a there. -/
def BoR (l : List Ev) (ps : List Pr) (b a : Nat) : Nat → Nat → Bool := fun x y => sncB l ps x y || (decide (x < y ∧ (y < b ∨ (y = b ∧ x < a))) && decide ((l.getD x default).g = (l.getD y default).g))
theorem boR_next {l : List Ev} {ps : List Pr} {b a : Nat} {v : Bool} (hab : a < b) (hv : v = (sncB l ps a b || decide ((l.getD a default).g = (l.getD b default).g))) (x y : Nat) : upd (BoR l ps b a) a b v x y = BoR l ps b (a + 1) x y := by
  unfold upd BoR
  by_cases e : x = a ∧ y = b
  · obtain ⟨rfl, rfl⟩ := e
    rw [if_pos ⟨rfl, rfl⟩, hv]
    have q : decide (x < y ∧ (y < y ∨ y = y ∧ x < x + 1)) = true := decide_eq_true (by omega)
    rw [q, Bool.true_and]
  · rw [if_neg e]
    have q : decide (x < y ∧ (y < b ∨ y = b ∧ x < a)) = decide (x < y ∧ (y < b ∨ y = b ∧ x < a + 1)) := by rw [decide_eq_decide]; omega
    rw [q]
theorem boR_row {l : List Ev} {ps : List Pr} {b x y : Nat} : BoR l ps b b x y = BoR l ps (b + 1) 0 x y := by
  unfold BoR
  have q : decide (x < y ∧ (y < b ∨ y = b ∧ x < b)) = decide (x < y ∧ (y < b + 1 ∨ y = b + 1 ∧ x < 0)) := by rw [decide_eq_decide]; omega
  rw [q]
theorem boR_end {l : List Ev} {ps : List Pr} (h : MayP l ps) {n x y : Nat} (hy : y < n) : BoR l ps n 0 x y = wsB l ps 0 x y := by
  unfold BoR wsB oneB
  by_cases e : x < y
  · have q : decide (x < y ∧ (y < n ∨ y = n ∧ x < 0)) = true := decide_eq_true (by omega)
    rw [q, decide_eq_true e, Bool.true_and, Bool.true_and, Bool.or_comm]
  · have q : decide (x < y ∧ (y < n ∨ y = n ∧ x < 0)) = false := decide_eq_false (by omega)
    rw [q, decide_eq_false e]
    cases k : sncB l ps x y
    · rfl
    · exact absurd (snc_fwd h k).1 e
/-- The last three loops: stage c, rows up to a, in row a up to b. -/
def WsR (l : List Ev) (ps : List Pr) (c a b : Nat) : Nat → Nat → Bool := fun x y => if x < a ∨ (x = a ∧ y < b) then wsB l ps (c + 1) x y else wsB l ps c x y
theorem wsR_row {l : List Ev} {ps : List Pr} {c a n x y : Nat} (hy : y < n) : WsR l ps c a n x y = WsR l ps c (a + 1) 0 x y := by
  unfold WsR
  by_cases e : x < a ∨ x = a ∧ y < n
  · rw [if_pos e, if_pos (by omega)]
  · rw [if_neg e, if_neg (by omega)]
theorem ws_same {l : List Ev} {ps : List Pr} {c x y : Nat} (h : ¬ (x < c ∧ c < y)) : wsB l ps (c + 1) x y = wsB l ps c x y := by
  show (wsB l ps c x y || (decide (x < c ∧ c < y) && (wsB l ps c x c && wsB l ps c c y))) = _
  rw [decide_eq_false h, Bool.false_and, Bool.or_false]
theorem wsR_end {l : List Ev} {ps : List Pr} {c x y : Nat} : WsR l ps c c 0 x y = WsR l ps (c + 1) 0 0 x y := by
  unfold WsR
  rw [if_neg (show ¬ (x < 0 ∨ x = 0 ∧ y < 0) by omega)]
  by_cases e : x < c ∨ x = c ∧ y < 0
  · rw [if_pos e]
  · rw [if_neg e, ws_same (by omega)]
theorem wsR_zero {l : List Ev} {ps : List Pr} {c x y : Nat} : WsR l ps c 0 0 x y = wsB l ps c x y := by
  unfold WsR
  rw [if_neg (by omega)]
/-- Row a from its c-th place on. -/
theorem wsR_start {l : List Ev} {ps : List Pr} {c a x y : Nat} : WsR l ps c a 0 x y = WsR l ps c a (c + 1) x y := by
  unfold WsR
  by_cases e : x < a ∨ x = a ∧ y < 0
  · rw [if_pos e, if_pos (by omega)]
  · rw [if_neg e]
    by_cases e2 : x < a ∨ x = a ∧ y < c + 1
    · rw [if_pos e2, ws_same (by omega)]
    · rw [if_neg e2]
theorem wsR_next {l : List Ev} {ps : List Pr} {c a b : Nat} {v : Bool} (ha : a < c) (hb : c < b) (hc : wsB l ps c a c = true) (hv : v = (wsB l ps c a b || wsB l ps c c b)) (x y : Nat) : upd (WsR l ps c a b) a b v x y = WsR l ps c a (b + 1) x y := by
  unfold upd WsR
  by_cases e : x = a ∧ y = b
  · obtain ⟨rfl, rfl⟩ := e
    rw [if_pos ⟨rfl, rfl⟩, if_pos (by omega), hv]
    show _ = (wsB l ps c x y || (decide (x < c ∧ c < y) && (wsB l ps c x c && wsB l ps c c y)))
    rw [decide_eq_true ⟨ha, hb⟩, hc, Bool.true_and, Bool.true_and]
  · rw [if_neg e]
    by_cases e2 : x < a ∨ x = a ∧ y < b
    · rw [if_pos e2, if_pos (by omega)]
    · rw [if_neg e2, if_neg (by omega)]
/-- Where row a does not reach c it stays. -/
theorem wsR_skip {l : List Ev} {ps : List Pr} {c a b x y : Nat} (hc : wsB l ps c a c = false) : WsR l ps c a b x y = WsR l ps c (a + 1) 0 x y := by
  unfold WsR
  have q : wsB l ps (c + 1) a y = wsB l ps c a y := by
    show (wsB l ps c a y || (decide (a < c ∧ c < y) && (wsB l ps c a c && wsB l ps c c y))) = _
    rw [hc, Bool.false_and, Bool.and_false, Bool.or_false]
  by_cases e : x = a
  · subst e
    rw [if_pos (show x < x + 1 ∨ x = x + 1 ∧ y < 0 by omega), q]
    split <;> rfl
  · by_cases e2 : x < a
    · rw [if_pos (.inl e2), if_pos (by omega)]
    · rw [if_neg (by omega), if_neg (by omega)]
theorem wsR_self {l : List Ev} {ps : List Pr} {c a b : Nat} : WsR l ps c a b a b = wsB l ps c a b := by
  unfold WsR
  rw [if_neg (by omega)]
theorem wsR_ac {l : List Ev} {ps : List Pr} {c a b : Nat} : WsR l ps c a b a c = wsB l ps c a c := by
  unfold WsR
  split
  · exact ws_same (by omega)
  · rfl
theorem wsR_cb {l : List Ev} {ps : List Pr} {c a b y : Nat} (h : a < c) : WsR l ps c a b c y = wsB l ps c c y := by
  unfold WsR
  rw [if_neg (by omega)]
end

section
open Go.RowKit


set_option maxRecDepth 100000 in
set_option maxHeartbeats 4000000 in
theorem rsync_f {l : List Ev} {ps : List Pr} {A B : Option Addr} {n c m d : Nat} (w : World) (H : Lg w l ps A n c B m d) (HM0 : Hid (MayR l ps false)) (HSM : Hid (SmL l)) : Calls Tryd.prog 17 #[.agg #[.slice A n c, .slice B m d]] w fun e w' => e = .returned (.slice none 0 0) ∧ Plus w w' := by
  have HPA := Lib.hid H.pa
  have hpc := HPA.out.cap
  have hpm := HPA.out.max
  have HLG := Lib.hid H
  clear H
  go_enter Tryd.func17, Tryd.ntmps17
  go_wp2_with (first | (go_at_call 15; (with_reducible refine (rfrom_f _ (HLG.out.plus (by repeat' (first | exact Plus.refl _ | refine Plus.alloc ?_ _ | refine Plus.plus ?_ _ | refine Plus.drew ?_ | refine Plus.drewN ?_ _))) HM0 HSM).mono ?_); rintro e xw ⟨rfl, ⟨x1, rfl⟩⟩))
  obtain ⟨W0, hW0⟩ : ∃ W0, w.alloc (.cells #[.slice A n c, .slice B m d] 30) = W0 := ⟨_, rfl⟩
  have hBX : Bt 30 W0 w.heap.size (.slice A n c) (.slice B m d) := by rw [← hW0]; exact (bt_new w _ _ _ rfl)
  have hP0 : Plus w W0 := by rw [← hW0]; exact (by repeat' (first | exact Plus.refl _ | refine Plus.alloc ?_ _ | refine Plus.plus ?_ _ | refine Plus.drew ?_ | refine Plus.drewN ?_ _))
  rw [hW0]
  have c0 := hBX.c0
  have c1 := hBX.c1
  haveI : Old w.heap.size W0 := ⟨hBX.lt⟩
  clear hBX hW0
  go_loopw [4] (fun s4 wr => s4 = .int .i64 0 ∧ Plus W0 wr) (fun _ _ => 0)
  case atStart => exact ⟨rfl, Plus.is x1⟩
  case round =>
    obtain ⟨rfl, ⟨x2, rfl⟩⟩ := hrel
    go_wp2_with fail
    go_loopw [8] (fun s8 wr => s8 = .int .i64 0 ∧ Plus W0 wr) (fun _ _ => 0)
    case atStart => exact ⟨rfl, Plus.is x2⟩
    case round =>
      obtain ⟨rfl, ⟨x3, rfl⟩⟩ := hrel
      by_cases hm : (0 : Int) < m
      · go_wp2_with fail
        go_returns
        exact ⟨rfl, hP0.trans (Plus.is x3)⟩
      · go_wp2_with fail
        go_returns
        exact ⟨rfl, hP0.trans (Plus.is x3)⟩
end
end Go.Proofs.YtmfdlcicbiincaaDoor
