/- Natural, places, keeps, Ordered. -/
import Derived.WalkKit
import Derived.WalkSpells
import Derived.WalkLawsBesides
import Derived.Handy
import Derived.Deep.RegionHeld3
import Derived.Deep.DeepCutAuto
import Derived.Deep.QuietTactic
import Derived.BigQuiet
import Derived.Lib.Hide
import Derived.KernelRfl
import Derived.WalkMore
import Derived.Deep.LoopGhost
import Derived.IntWalk
import Derived.Deep.RegionLaw
import Derived.RangeFuncBox
import Derived.RangeFuncNested
import Derived.RangeFuncBound
import Derived.RangeFuncCalls
import Derived.RangeFuncLeaves
import Derived.Shelf.Abstract
import Derived.Shelf.RegionOpen
import Derived.OwnWalkIn
import Derived.TacticsInMore
import Derived.LoopNIn
import Derived.LoopIn
import Derived.Maps.AppendAt
import Derived.Sort.BigQuietIn
import Derived.Test.YtmfdlcicbiincaaDoorNA
import Derived.Test.YtmfdlcicbiincaaDoorE17
import Derived.Test.YtmfdlcicbiincaaDoorE14
import Derived.Test.YtmfdlcicbiincaaDoorK2
import Derived.Test.YtmfdlcicbiincaaDoorK11
import Derived.Test.YtmfdlcicbiincaaDoorK13
namespace Go.Proofs.YtmfdlcicbiincaaDoor

section
open Go.RowKit


theorem own_arN {w : World} {D : Nat} {xs : List Int} {n : Nat} (h : Own .i64 w D xs) (hl : n = xs.length) (hn : n ≤ 1000000) : Ar .i64 w (some ⟨D, 0, none⟩) xs n n := ⟨h.rd, hl, Nat.le_refl _, by omega⟩
theorem madeI (K : Nat) : madeCells #[.int .i64 0] K = Array.replicate K (.int .i64 0) := by
  apply Array.toList_inj.1
  rw [toList_madeCells_one]
  simp
/-- A row of ints that reads. -/
def RetI (xs : List Int) (n : Nat) (w : World) (e : Ending) (w' : World) : Prop := ∃ (D : Option Addr) (c : Nat), e = .returned (.slice D n c) ∧ Ar .i64 w' D xs n c ∧ Plus w w'
def NiR (w : World) (n D : Nat) (s : Value) (wr : World) : Prop := ∃ (j : Nat) (xs : List Int), s = .int .i64 j ∧ j ≤ n ∧ Own .i64 wr D xs ∧ xs.length = n ∧ (∀ i, i < j → xs.getD i 0 = (i : Int)) ∧ Below w.heap.size w wr
theorem natL_ext {xs : List Int} {n : Nat} (h : xs.length = n) (he : ∀ i, i < n → xs.getD i 0 = (i : Int)) : xs = natL n := by
  apply List.ext_getElem
  · rw [h, natL_len]
  · intro i h1 h2
    have q := he i (by omega)
    have q2 := natL_at (n := n) (i := i) (by omega)
    rw [List.getD_eq_getElem?_getD, List.getElem?_eq_getElem h1] at q
    rw [List.getD_eq_getElem?_getD, List.getElem?_eq_getElem h2] at q2
    exact q.trans q2.symm
theorem getD_set {xs : List Int} {j i : Nat} {v : Int} (hj : j < xs.length) : (xs.set j v).getD i 0 = if i = j then v else xs.getD i 0 := by
  rw [List.getD_eq_getElem?_getD, List.getD_eq_getElem?_getD]
  by_cases h : i = j
  · subst h
    rw [if_pos rfl, List.getElem?_set_self hj]
    rfl
  · rw [if_neg h, List.getElem?_set_ne (fun e => h e.symm)]
set_option maxRecDepth 100000 in
set_option maxHeartbeats 4000000 in
theorem natural_t {l : List Ev} {ps : List Pr} {A B : Option Addr} {n c m d : Nat} (w : World) (H : Lg w l ps A n c B m d) (HM0 : Hid (MayR l ps true)) (hn : n ≤ 1000) : Calls Tryd.prog 36 #[.agg #[.slice A n c, .slice B m d]] w (RetI (natL n) n w) := by
  have HLG := Lib.hid H
  clear H
  have hmk := run_make_row' (P := Tryd.prog) 40 3 (.int .i64 0) 8 Tryd.underlying40 infoInt rfl .i64 .i64 n (by omega) (by omega)
  go_enter Tryd.func36, Tryd.ntmps36
  go_wp2_with (go_at_call 20; (with_reducible refine (may_s _ HM0 (HLG.out.plus (by repeat' (first | exact Plus.refl _ | refine Plus.alloc ?_ _ | refine Plus.plus ?_ _ | refine Plus.drew ?_ | refine Plus.drewN ?_ _)))).mono ?_); rintro e xw ⟨rfl, ⟨ym, rfl⟩⟩)
  obtain ⟨D, hD⟩ : ∃ D, w.heap.size + 1 + ym.blocks.length = D := ⟨_, rfl⟩
  have hDw : w.heap.size < D := by omega
  have hO := Own.zeros .i64 (plus (w.alloc (.cells #[.slice A n c, .slice B m d] 25)) ym) n 3 _ (madeI n)
  rw [show (plus (w.alloc (.cells #[.slice A n c, .slice B m d] 25)) ym).heap.size = D by rw [← hD]; simp [go_sem]] at hO
  have hB0 : Below w.heap.size w ((plus (w.alloc (.cells #[.slice A n c, .slice B m d] 25)) ym).alloc (.cells (madeCells #[.int .i64 0] n) 3)) := Plus.below (by repeat' (first | exact Plus.refl _ | refine Plus.alloc ?_ _ | refine Plus.plus ?_ _ | refine Plus.drew ?_ | refine Plus.drewN ?_ _))
  rw [hD]
  clear hD
  go_loopw [14] (fun s14 wr => NiR w n D s14 wr) (fun s14 _ => ((n : Int) - intOf s14).toNat)
  case atStart => exact ⟨0, List.replicate n 0, rfl, Nat.zero_le _, hO, List.length_replicate .., fun i h => absurd h (by omega), hB0⟩
  case round =>
    obtain ⟨j, xs, rfl, hj, hO, hl, hx, hB⟩ := hrel
    clear hB0
    by_cases hlt : j < n
    · have hlt' : (j : Int) < n := by omega
      have hc := hO.cell (j := j) (by omega)
      have hf := hO.frozen j
      have hset := hO.set (j := j) (v := (j : Int)) (by omega)
      have hlD := hO.lt
      go_wp2_with fail
      go_roundw
      case rel =>
        refine ⟨j + 1, xs.set j j, int_eq (by omega), by omega, hset, by rw [List.length_set]; exact hl, fun i hi => ?_, hB.setCell (p := ⟨D, j, none⟩) (by show w.heap.size ≤ D; omega) _⟩
        rw [getD_set (by omega)]
        split
        · rename_i e
          rw [e]
        · exact hx i (by omega)
      case measure => simp [intOf]; omega
    · obtain rfl : j = n := by omega
      obtain rfl := natL_ext hl hx
      go_wp2_with fail
      go_returns
      exact ⟨_, _, rfl, own_arN hO hl.symm (by omega), Plus.of_below hB⟩
set_option maxRecDepth 100000 in
set_option maxHeartbeats 4000000 in
theorem natural_f {l : List Ev} {ps : List Pr} {A B : Option Addr} {n c m d : Nat} (w : World) (H : Lg w l ps A n c B m d) (HM0 : Hid (MayR l ps false)) : Calls Tryd.prog 36 #[.agg #[.slice A n c, .slice B m d]] w fun e w' => e = .returned (.slice none 0 0) ∧ Plus w w' := by
  have HLG := Lib.hid H
  clear H
  go_enter Tryd.func36, Tryd.ntmps36
  go_wp2_with (go_at_call 20; (with_reducible refine (may_s _ HM0 (HLG.out.plus (by repeat' (first | exact Plus.refl _ | refine Plus.alloc ?_ _ | refine Plus.plus ?_ _ | refine Plus.drew ?_ | refine Plus.drewN ?_ _)))).mono ?_); rintro e xw ⟨rfl, ⟨ym, rfl⟩⟩)
  go_returns
  exact ⟨rfl, (by repeat' (first | exact Plus.refl _ | refine Plus.alloc ?_ _ | refine Plus.plus ?_ _ | refine Plus.drew ?_ | refine Plus.drewN ?_ _))⟩
def RetPl (n : Nat) (os : List Int) (w : World) (e : Ending) (w' : World) : Prop := (PerP n os ∧ ∃ (D : Option Addr) (c : Nat) (P : List Int), e = .returned (.tuple #[.slice D n c, .bool true]) ∧ Ar .i64 w' D P n c ∧ PlcP n os P ∧ Plus w w') ∨ (¬ PerP n os ∧ e = .returned (.tuple #[.slice none 0 0, .bool false]) ∧ Plus w w')
theorem pl_no {n : Nat} {os : List Int} {w w' : World} {e : Ending} (h : ¬ PerP n os) (he : e = .returned (.tuple #[.slice none 0 0, .bool false])) (hp : Plus w w') : RetPl n os w e w' := .inr ⟨h, he, hp⟩
/-- Where the filling stands. -/
def PfR (w : World) (n D : Nat) (s : Value) (wr : World) : Prop := ∃ (j : Nat) (xs : List Int), s = .int .i64 j ∧ j ≤ n ∧ Own .i64 wr D xs ∧ xs.length = n ∧ (∀ i, i < j → xs.getD i 0 = -1) ∧ Below w.heap.size w wr
/-- Where the placing stands. -/
def PpR (w : World) (n D : Nat) (os : List Int) (s : Value) (wr : World) : Prop := ∃ (k : Nat) (xs : List Int), s = .int .i64 k ∧ k ≤ n ∧ Own .i64 wr D xs ∧ xs.length = n ∧ (∀ i, i < k → 0 ≤ os.getD i 0 ∧ os.getD i 0 < n ∧ xs.getD (os.getD i 0).toNat 0 = (i : Int)) ∧ (∀ b, b < n → xs.getD b 0 = -1 ∨ ∃ i, i < k ∧ os.getD i 0 = (b : Int)) ∧ (∀ i j, i < j → j < k → os.getD i 0 ≠ os.getD j 0) ∧ Below w.heap.size w wr
set_option maxRecDepth 100000 in
set_option maxHeartbeats 4000000 in
theorem places_c {n : Nat} {A : Option Addr} {os : List Int} {no c : Nat} (w : World) (H : Ar .i64 w A os no c) (hn : n ≤ 1000) : Calls Tryd.prog 65 #[.slice A no c, .int .i64 n] w (RetPl n os w) := by
  have HA := Lib.hid H
  have hno := Lib.hid H.len
  have hcap := H.cap
  have hmax := H.max
  clear H
  have hmk := run_make_row' (P := Tryd.prog) 40 3 (.int .i64 0) 8 Tryd.underlying40 infoInt rfl .i64 .i64 n (by omega) (by omega)
  by_cases hne : no = n
  · subst hne
    go_enter Tryd.func65, Tryd.ntmps65
    go_wp2_with fail
    obtain ⟨D, hD⟩ : ∃ D, w.heap.size = D := ⟨_, rfl⟩
    have hO0 := Own.zeros .i64 w no 3 _ (madeI no)
    have hB0 : Below w.heap.size w (w.alloc (.cells (madeCells #[.int .i64 0] no) 3)) := Plus.below (by repeat' (first | exact Plus.refl _ | refine Plus.alloc ?_ _ | refine Plus.plus ?_ _ | refine Plus.drew ?_ | refine Plus.drewN ?_ _))
    rw [hD] at hO0
    have hDw : w.heap.size ≤ D := by omega
    rw [hD]
    clear hD
    go_loopw [18] (fun s18 wr => PfR w no D s18 wr) (fun s18 _ => ((no : Int) - intOf s18).toNat)
    case atStart => exact ⟨0, List.replicate no 0, rfl, Nat.zero_le _, hO0, List.length_replicate .., fun i h => absurd h (by omega), hB0⟩
    case round =>
      obtain ⟨j, xs, rfl, hj, hO, hl, hx, hB⟩ := hrel
      clear hB0 hO0
      by_cases hlt : j < no
      · have hlt' : (j : Int) < no := by omega
        have hc := hO.cell (j := j) (by omega)
        have hf := hO.frozen j
        have hset := hO.set (j := j) (v := -1) (by omega)
        have hlD := hO.lt
        go_wp2_with fail
        go_roundw
        case rel =>
          refine ⟨j + 1, xs.set j (-1), int_eq (by omega), by omega, hset, by rw [List.length_set]; exact hl, fun i hi => ?_, hB.setCell (p := ⟨D, j, none⟩) (by show w.heap.size ≤ D; omega) _⟩
          rw [getD_set (by omega)]
          split
          · rfl
          · exact hx i (by omega)
        case measure => simp [intOf]; omega
      · obtain ⟨N, hN⟩ : ∃ N, N = no := ⟨_, rfl⟩
        have hjn : (j : Int) = no := by omega
        rw [hjn]
        have HX := Lib.hid (show ∀ i, i < no → xs.getD i 0 = -1 from fun i hi => hx i (by omega))
        have HO := Lib.hid hO
        have HB := Lib.hid hB
        clear hO hx hB
        go_wp2_with fail
        go_loopw [27] (fun s27 w2 => PpR w no D os s27 w2) (fun s27 _ => ((no : Int) - intOf s27).toNat)
        case atStart => exact ⟨0, xs, rfl, Nat.zero_le _, HO.out, hl, fun i h => absurd h (by omega), fun b hb => .inl (HX.out b hb), fun i j _ h => absurd h (by omega), HB.out⟩
        case round =>
          obtain ⟨k, ys, rfl, hk, hO, hly, hy1, hy2, hy3, hB⟩ := hrel
          have HY1 := Lib.hid hy1
          have HY2 := Lib.hid hy2
          have HY3 := Lib.hid hy3
          clear hy1 hy2 hy3
          by_cases hlt : k < no
          · have hlt' : (k : Int) < no := by omega
            obtain ⟨g, o, rfl, hg, hat⟩ := (HA.out.plus (Plus.of_below hB)).rd.at_ (j := k) (by rw [← hno.out]; exact hlt)
            have hck := hat k (by rw [← hno.out]; exact hlt)
            have hadd := add_addr g o k
            obtain ⟨x, hx⟩ : ∃ x, os.getD k 0 = x := ⟨_, rfl⟩
            rw [hx] at hck
            have HXK := Lib.hid hx
            clear hx
            have hfin : ¬ (0 ≤ x ∧ x < no) → ¬ PerP no os := fun h q => by
              have := q.2.1 k hlt
              rw [HXK.out] at this
              exact h this
            by_cases hx0 : x < 0
            · go_wp2_with fail
              go_returns
              exact pl_no (hfin (by omega)) rfl (Plus.of_below hB)
            · by_cases hx1 : (no : Int) ≤ x
              · go_wp2_with fail
                go_returns
                exact pl_no (hfin (by omega)) rfl (Plus.of_below hB)
              · obtain ⟨b, rfl⟩ : ∃ b : Nat, x = (b : Int) := ⟨x.toNat, by omega⟩
                have hbn : b < no := by omega
                have hcb := hO.cell (j := b) (by omega)
                have hfb := hO.frozen b
                have hlD := hO.lt
                obtain ⟨v, hv⟩ : ∃ v, ys.getD b 0 = v := ⟨_, rfl⟩
                rw [hv] at hcb
                have HV := Lib.hid hv
                clear hv
                have hset := hO.set (j := b) (v := (k : Int)) (by omega)
                by_cases hv1 : v = -1
                · subst hv1
                  go_wp2_with fail
                  go_roundw
                  case rel =>
                    refine ⟨k + 1, ys.set b k, int_eq (by omega), by omega, hset, by rw [List.length_set]; exact hly, fun i hi => ?_, fun b2 hb2 => ?_, fun i j hij hj => ?_, hB.setCell (p := ⟨D, b, none⟩) (by show w.heap.size ≤ D; omega) _⟩
                    · by_cases e : i = k
                      · subst e
                        rw [HXK.out, Int.toNat_natCast, getD_set (by omega), if_pos rfl]
                        exact ⟨by omega, by omega, rfl⟩
                      · obtain ⟨q1, q2, q3⟩ := HY1.out i (by omega)
                        refine ⟨q1, q2, ?_⟩
                        rw [getD_set (by omega)]
                        split
                        · rename_i e2
                          rw [e2, HV.out] at q3
                          omega
                        · exact q3
                    · rw [getD_set (by omega)]
                      split
                      · rename_i e
                        exact .inr ⟨k, by omega, by rw [HXK.out, e]⟩
                      · rcases HY2.out b2 hb2 with q | ⟨i, q1, q2⟩
                        · exact .inl q
                        · exact .inr ⟨i, by omega, q2⟩
                    · by_cases e : j = k
                      · subst e
                        rw [HXK.out]
                        intro q
                        obtain ⟨q1, q2, q3⟩ := HY1.out i hij
                        rw [q, Int.toNat_natCast, HV.out] at q3
                        omega
                      · exact HY3.out i j hij (by omega)
                  case measure => simp [intOf]; omega
                · have hno2 : ¬ PerP no os := fun q => by
                    rcases HY2.out b hbn with q1 | ⟨i, q1, q2⟩
                    · exact hv1 (HV.out.symm.trans q1)
                    · exact q.2.2 i k q1 hlt (by rw [q2, HXK.out])
                  go_wp2_with fail
                  go_returns
                  exact pl_no hno2 rfl (Plus.of_below hB)
          · have hkn : (k : Int) = no := by omega
            obtain rfl : k = no := by omega
            have hper : PerP k os := ⟨hno.out.symm, fun i hi => ⟨(HY1.out i hi).1, (HY1.out i hi).2.1⟩, HY3.out⟩
            go_wp2_with fail
            go_returns
            exact .inl ⟨hper, _, _, ys, rfl, own_arN hO hly.symm (by omega), ⟨hly, fun i hi => (HY1.out i hi).2.2⟩, Plus.of_below hB⟩
  · have hne' : ¬ (no : Int) = n := by omega
    go_enter Tryd.func65, Tryd.ntmps65
    go_wp2_with fail
    go_returns
    exact pl_no (fun q => hne (hno.out.trans q.1)) rfl (Plus.refl _)
end

section
open Go.RowKit

open Go.Shelf
attribute [local go_sem] Oper.semAt_some

def AllK (P : List Int) (xs : List (Nat × Nat)) : Prop := ∀ x ∈ xs, P.getD x.1 0 ≤ P.getD x.2 0
def SomeK (P : List Int) (xs : List (Nat × Nat)) : Prop := ∃ x ∈ xs, ¬ P.getD x.1 0 ≤ P.getD x.2 0
def RetKp (R : Nat → Nat → Bool) (K n : Nat) (P : List Int) (w : World) (e : Ending) (w' : World) : Prop := ∃ r : Bool, e = .returned (.bool r) ∧ (r = true ↔ AllK P (prs R K n)) ∧ Plus w w'
theorem bx_put {w : World} {D b : Nat} {t : TypeId} {v : Value} {o : Obj} (h : Boxed w b t v) (hb : b ≠ D) : Boxed (w.putObj D o) b t v := (World.putObj_heap_other hb).trans h
theorem bx_new1 (w : World) (v : Value) (t b : Nat) (hb : b = w.heap.size) : Boxed (w.alloc (.cells #[v] t)) b t v := by
  rw [hb]
  exact Boxed.new _ _ _
set_option maxRecDepth 100000 in
set_option maxHeartbeats 4000000 in
theorem keeps_in {R : Nat → Nat → Bool} {p B n K : Nat} {hs : List Nat} {D : Option Addr} {c : Nat} {P : List Int} (w : World) (hL : Lai w) (H : Rl w B p n K R hs) (HP : Ar .i64 w D P n c) (hK : K ≤ 1000) (hn : n ≤ 1000) (hE : Hid (∀ a b, R a b = true → a < b ∧ b < n)) : CallsIn Fence.wide 9 Tryd.prog 66 #[.slice D n c, .pointer (some ⟨p, 0, none⟩)] w (RetKp R K n P w) := by
  obtain ⟨A, ca, hbx⟩ := H.form
  have HBX := Lib.hid hbx
  have HR := Lib.hid H
  have HL := Lib.hid hL
  have HA := Lib.hid HP
  have hlen := Lib.hid HP.len
  have hcap := HP.cap
  have hmax := HP.max
  clear hbx H hL HP
  refine callsIn_of_wp_marks Tryd.func66 rfl trivial ?_ rfl
  simp only [Tryd.ntmps66, List.size_toArray, List.length_cons, List.length_nil, Nat.reduceAdd, Nat.reduceSub, Array.replicate_succ, Array.replicate_zero, List.push_toArray, List.append_toArray, List.nil_append, List.cons_append]
  gi_wp2_with (refine ⟨trivial, ?_⟩; gi_at_call 51; (refine (callsIn_wide.2 (pairs_c _)).mono ?_); rintro e w' ⟨rfl, hw'⟩; rw [hw']; clear hw' w')
  obtain ⟨W2, hW2⟩ : ∃ W2, (((w.alloc (.cells #[.slice D n c] 40)).alloc (.cells #[.bool false] 4)).alloc (.cells #[.pointer (some ⟨p, 0, none⟩)] 33)) = W2 := ⟨_, rfl⟩
  have sz2 : W2.heap.size = w.heap.size + 3 := by rw [← hW2]; simp
  have b40 : Boxed W2 w.heap.size 40 (.slice D n c) := by rw [← hW2]; exact ((Boxed.new _ _ _).alloc _).alloc _
  have b4 : Boxed W2 (w.heap.size + 1) 4 (.bool false) := by rw [← hW2]; exact (bx_new1 _ _ _ _ (by simp)).alloc _
  have b33 : Boxed W2 (w.heap.size + 1 + 1) 33 (.pointer (some ⟨p, 0, none⟩)) := by rw [← hW2]; exact bx_at _ _ _ (by simp)
  have hBW : Below w.heap.size w W2 := by rw [← hW2]; exact Plus.below (by repeat' (first | exact Plus.refl _ | refine Plus.alloc ?_ _ | refine Plus.plus ?_ _ | refine Plus.drew ?_ | refine Plus.drewN ?_ _))
  rw [hW2]
  clear hW2
  refine range_o (gf := 74) (lb := #[.pointer (some ⟨w.heap.size + 1 + 1, 0, none⟩)]) rfl (enters_of Tryd.func74 (by kernel_rfl) rfl) (pairs_seq (R := R) (K := K) (n := n) (p := p) (B := B) (hs := hs) (A := A) (c := ca) (b := w.heap.size + 1 + 1) (by omega) (by omega)) (fun _ => rfl)
    (fun pre V => (((Boxed V (w.heap.size + 1) 4 (.bool false) ∧ Boxed V (w.heap.size + 1 + 1) 33 (.pointer (some ⟨p, 0, none⟩))) ∧ Boxed V w.heap.size 40 (.slice D n c)) ∧ AllK P pre) ∧ Below w.heap.size w V)
    (fun c pre V => (Boxed V (w.heap.size + 1) 4 (.bool false) ∧ (c = .ret ∧ SomeK P pre)) ∧ Below w.heap.size w V)
    ?hI ?hIx ?hFx ?h0 (fun x => { tmps := #[.slice D n c, .pointer (some ⟨p, 0, none⟩), .pointer (some ⟨w.heap.size, 0, none⟩), undef, .pointer (some ⟨w.heap.size + 1, 0, none⟩), .int .i64 (x.1 : Nat), .int .i64 (x.2 : Nat), .pointer (some ⟨p, 0, none⟩), .func (.func 74) #[] #[.pointer (some ⟨w.heap.size + 1 + 1, 0, none⟩)], .int .i64 (x.1 : Nat), .int .i64 (x.2 : Nat), undef, undef, undef, undef, undef, undef, undef, undef, undef], defers := [] }) ?assign ?body ?done ?stop
  case assign =>
    intro l x W K hK
    gi_wp2
    exact hK
  case hI => exact OwnFrom.and (OwnFrom.and (OwnFrom.and (OwnFrom.and ((boxed_own _ _ _).from _) ((boxed_own _ _ _).from _)) ((boxed_own _ _ _).from _)) (ownFrom_pure _ _)) (ownFrom_below (Nat.le_refl _) (by omega))
  case hIx => exact fun c => OwnFrom.and (OwnFrom.and ((boxed_own _ _ _).from _) (ownFrom_pure _ _)) (ownFrom_below (Nat.le_refl _) (by omega))
  case hFx =>
    rintro pre V ⟨⟨⟨⟨_, h33⟩, _⟩, _⟩, hB⟩
    exact ⟨HL.out.plus (.of_below hB), h33, bx_plus HBX.out (.of_below hB), HR.out.plus (.of_below hB)⟩
  case h0 => exact ⟨⟨⟨⟨b4, b33⟩, b40⟩, fun x h => absurd h (by simp)⟩, hBW⟩
  case body =>
    rintro l pre ⟨a, b⟩ rest V hl ⟨⟨⟨⟨h4, h33⟩, h40⟩, hall⟩, hB⟩ hx
    obtain ⟨hab, hbn⟩ : a < b ∧ b < n := by
      have q : (a, b) ∈ prs R K n := by rw [hx]; simp
      unfold prs mem at q
      simp only [List.mem_flatMap, List.mem_range, List.mem_map, List.mem_filter, Prod.mk.injEq] at q
      obtain ⟨a', ha, b', ⟨_, hb⟩, rfl, rfl⟩ := q
      exact hE.out _ _ hb
    have hc40 := h40.cell
    have hl40 := h40.lt
    have hc4 := h4.cell
    have hl4 := h4.lt
    have hf4 := h4.frozen
    obtain ⟨g, o, rfl, hg, hat⟩ := (HA.out.plus (Plus.of_below hB)).rd.at_ (j := b) (by rw [← hlen.out]; exact hbn)
    have hca := hat a (by rw [← hlen.out]; omega)
    have hcb := hat b (by rw [← hlen.out]; omega)
    have hadda := add_addr g o a
    have haddb := add_addr g o b
    obtain ⟨pa, hpa⟩ : ∃ v, P.getD a 0 = v := ⟨_, rfl⟩
    obtain ⟨pb, hpb⟩ : ∃ v, P.getD b 0 = v := ⟨_, rfl⟩
    rw [hpa] at hca
    rw [hpb] at hcb
    have HPA := Lib.hid hpa
    have HPB := Lib.hid hpb
    have HALL := Lib.hid hall
    clear hpa hpb hall hat
    haveI : Old w.heap.size V := ⟨hl40⟩
    haveI : Old g V := ⟨hg⟩
    haveI : Old (w.heap.size + 1) V := ⟨hl4⟩
    have han : (a : Int) < n := by omega
    have hbn' : (b : Int) < n := by omega
    dsimp only
    gi_wp2
    refine regionIn_plus (by kernel_rfl) (by kernel_rfl) (by kernel_rfl) ?_
    repeat (gi_big_quiet_step (fail))
    refine wpQuietIn_nil ?_
    intro _ hw'
    obtain ⟨x7, rfl⟩ := hw'
    have h4x := bx_plus h4 (Plus.is (w := V) x7)
    have h33x := bx_plus h33 (Plus.is (w := V) x7)
    have h40x := bx_plus h40 (Plus.is (w := V) x7)
    have hKx : Kept W2.heap.size V (plus V x7) := Kept.plus (Plus.is x7)
    have hBx2 : Below w.heap.size w (plus V x7) := hB.trans ((Plus.below (Plus.is x7)).mono (by have := hB.size; omega))
    by_cases hgt : pb < pa
    · gi_wp2
      have hk2 : Kept W2.heap.size V (V.setCell ⟨w.heap.size + 1, 0, none⟩ (.bool false)) := Kept.of_grown (grown_set _ _ _ _) (fun r o e h _ => by
        injection e with e
        omega)
      have hk3 := hk2.trans (Kept.plus (Plus.is (w := V.setCell ⟨w.heap.size + 1, 0, none⟩ (.bool false)) x7))
      refine ⟨hk3, ⟨bx_plus (h4.set _) (Plus.is x7), rfl, (a, b), by simp, ?_⟩, ?_⟩
      · show ¬ P.getD a 0 ≤ P.getD b 0
        rw [HPA.out, HPB.out]
        omega
      · exact (Below.set hB (by omega)).trans ((Plus.below (Plus.is x7)).mono (by rw [World.size_setCell]; exact hB.size))
    · gi_wp2
      refine ⟨by rw [← sz2]; exact hKx, ⟨⟨⟨h4x, h33x⟩, h40x⟩, fun x hx => ?_⟩, hBx2⟩
      rcases List.mem_append.1 hx with q | q
      · exact HALL.out x q
      · obtain rfl := List.mem_singleton.1 q
        show P.getD a 0 ≤ P.getD b 0
        rw [HPA.out, HPB.out]
        omega
  case stop =>
    rintro D2 c2 pre V hD hpre ⟨⟨h4, rfl, x, hx1, hx2⟩, hB⟩ hDd
    have h4p := bx_put (D := D2) (o := .deferred none) h4 (by omega)
    have hc4 := h4p.cell
    gi_wp2
    refine ⟨by simp, .inl ⟨_, _, rfl, run_takeDeferred hDd, ?_⟩⟩
    refine ⟨.bool false, by simp [results, Tryd.results66, go_sem, hc4], false, rfl, ⟨fun h => (by cases h), fun h => absurd (h x (hpre.subset hx1)) (Int.not_le.2 hx2)⟩, Plus.of_below (hB.trans (belowK_b (w := w) (Nat.le_refl _) V D2 _ _ (by omega) hDd rfl rfl))⟩
  case done =>
    rintro D2 V hD ⟨⟨⟨⟨h4, _⟩, _⟩, hall⟩, hB⟩ hDd
    have hl4 := h4.lt
    have hc4 := h4.cell
    have hf4 := h4.frozen
    have HALL := Lib.hid hall
    clear hall
    gi_wp2
    have hDd2 : (V.setCell ⟨w.heap.size + 1, 0, none⟩ (.bool true)).heap[D2]? = some (.deferred (some [])) := (Below.heap_setCell _ _ _ _ (by show D2 ≠ w.heap.size + 1; omega)).trans hDd
    have h4p := bx_put (D := D2) (o := .deferred none) (h4.set (.bool true)) (by omega)
    have hc5 := h4p.cell
    have hB2 := Below.set (v := .bool true) (i := 0) hB (show w.heap.size ≤ w.heap.size + 1 by omega)
    refine ⟨by simp, .inl ⟨_, _, rfl, run_takeDeferred hDd2, ?_⟩⟩
    refine ⟨.bool true, by simp [results, Tryd.results66, go_sem, hc5], true, rfl, ⟨fun _ => HALL.out, fun _ => rfl⟩, Plus.of_below (hB2.trans (belowK_b (w := w) (Nat.le_refl _) _ D2 _ _ (by omega) hDd2 rfl rfl))⟩
theorem keeps_c {R : Nat → Nat → Bool} {p B n K : Nat} {hs : List Nat} {D : Option Addr} {c : Nat} {P : List Int} (w : World) (hL : Lai w) (H : Rl w B p n K R hs) (HP : Ar .i64 w D P n c) (hK : K ≤ 1000) (hn : n ≤ 1000) (hE : Hid (∀ a b, R a b = true → a < b ∧ b < n)) : Calls Tryd.prog 66 #[.slice D n c, .pointer (some ⟨p, 0, none⟩)] w (RetKp R K n P w) := callsIn_wide.1 (keeps_in w hL H HP hK hn hE)
theorem mem_prs {R : Nat → Nat → Bool} {K n a b : Nat} : (a, b) ∈ prs R K n ↔ a < n ∧ b < 64 * K ∧ R a b = true := by
  unfold prs mem
  simp only [List.mem_flatMap, List.mem_range, List.mem_map, List.mem_filter, Prod.mk.injEq]
  constructor
  · rintro ⟨a', h1, b', ⟨h2, h3⟩, rfl, rfl⟩
    exact ⟨h1, h2, h3⟩
  · rintro ⟨h1, h2, h3⟩
    exact ⟨a, h1, b, ⟨h2, h3⟩, rfl, rfl⟩
theorem keepR {R : Nat → Nat → Bool} {K n : Nat} {os P : List Int} (hn : n ≤ 64 * K) (hE : ∀ a b, R a b = true → a < b ∧ b < n) (hp : PerP n os) (h : PlcP n os P) : AllK P (prs R K n) ↔ KeepP n R os := by
  rw [keep_iff hp h]
  constructor
  · intro q a b ha hb hr
    exact q (a, b) (mem_prs.2 ⟨ha, by omega, hr⟩)
  · rintro q ⟨a, b⟩ hx
    obtain ⟨h1, h2, h3⟩ := mem_prs.1 hx
    exact q a b h1 (hE a b h3).2 h3
end

section
open Go.RowKit


theorem places_t {n : Nat} {A : Option Addr} {os : List Int} {no c : Nat} (w : World) (H : Ar .i64 w A os no c) (hn : n ≤ 1000) (hp : Hid (PerP n os)) : Calls Tryd.prog 65 #[.slice A no c, .int .i64 n] w fun e w' => ∃ (D : Option Addr) (c : Nat) (P : List Int), e = .returned (.tuple #[.slice D n c, .bool true]) ∧ Ar .i64 w' D P n c ∧ PlcP n os P ∧ Plus w w' :=
  (places_c w H hn).mono fun e w' h => by
    rcases h with ⟨_, h⟩ | ⟨h, _⟩
    · exact h
    · exact absurd hp.out h
theorem places_f {n : Nat} {A : Option Addr} {os : List Int} {no c : Nat} (w : World) (H : Ar .i64 w A os no c) (hn : n ≤ 1000) (hp : Hid (¬ PerP n os)) : Calls Tryd.prog 65 #[.slice A no c, .int .i64 n] w fun e w' => e = .returned (.tuple #[.slice none 0 0, .bool false]) ∧ Plus w w' :=
  (places_c w H hn).mono fun e w' h => by
    rcases h with ⟨h, _⟩ | ⟨_, h⟩
    · exact absurd h hp.out
    · exact h
def KeR (n : Nat) (B : Nat → Nat → Bool) (os : List Int) (r : Bool) : Prop := KeepP n B os ↔ r = true
theorem keeps_n {R : Nat → Nat → Bool} {p B n K : Nat} {hs : List Nat} {D : Option Addr} {c : Nat} {os P : List Int} {r : Bool} (w : World) (hL : Lai w) (H : Rl w B p n K R hs) (HP : Ar .i64 w D P n c) (hK : K ≤ 1000) (hn : n ≤ 1000) (hE : Hid (∀ a b, R a b = true → a < b ∧ b < n)) (hk : n ≤ 64 * K) (hp : PerP n os) (h : PlcP n os P) (HQ : Hid (KeR n R os r)) : Calls Tryd.prog 66 #[.slice D n c, .pointer (some ⟨p, 0, none⟩)] w fun e w' => e = .returned (.bool r) ∧ Plus w w' :=
  (keeps_c w hL H HP hK hn hE).mono fun e w' ⟨r2, h1, h2, h3⟩ => ⟨by
    have q := (h2.trans (keepR hk hE.out hp h)).trans HQ.out
    rw [h1]
    cases r <;> cases r2 <;> simp_all, h3⟩
/-- What Ordered finds. -/
def OrdR (n : Nat) (B : Nat → Nat → Bool) (os : List Int) (z : Int) : Prop := (OrdP n B os ∧ z = -1) ∨ (¬ OrdP n B os ∧ z = 0)
theorem OrdR.ex (n : Nat) (B : Nat → Nat → Bool) (os : List Int) : ∃ z, OrdR n B os z := by
  by_cases h : OrdP n B os
  · exact ⟨-1, .inl ⟨h, rfl⟩⟩
  · exact ⟨0, .inr ⟨h, rfl⟩⟩
theorem bef_fwd {l : List Ev} {ps : List Pr} {n : Nat} (h : MayP l ps) (hn : n = l.length) (a b : Nat) (q : befB l ps a b = true) : a < b ∧ b < n := by
  rw [hn]
  exact (cloB_iff.1 q).fwd (edg_fwd h)
set_option maxRecDepth 100000 in
set_option maxHeartbeats 4000000 in
theorem ordered_t {l : List Ev} {ps : List Pr} {A B : Option Addr} {n c m d : Nat} {K : Nat} {O : Option Addr} {os : List Int} {no co : Nat} {z : Int} (w : World) (hL : Lai w) (H : Lg w l ps A n c B m d) (HM0 : Hid (MayR l ps true)) (HMM : Hid (MayP l ps)) (HK : Hid (K = (n + 63) / 64)) (HO : Ar .i64 w O os no co) (HZ : Hid (OrdR n (befB l ps) os z)) : Calls Tryd.prog 29 #[.agg #[.slice A n c, .slice B m d], .slice O no co] w fun e w' => e = .returned (.int .i64 z) ∧ Plus w w' := by
  have hn : n ≤ 1000 := by rw [H.len.1]; exact HMM.out.1
  have HE := Lib.hid (bef_fwd HMM.out H.len.1)
  have hkk : n ≤ 64 * K ∧ K ≤ 1000 := by rw [HK.out]; omega
  have HLG := Lib.hid H
  have HLA := Lib.hid hL
  have HOS := Lib.hid HO
  clear H hL HO
  by_cases hper : PerP n os
  · have HPER := Lib.hid hper
    clear hper
    by_cases hkeep : KeepP n (befB l ps) os
    · have HKR := Lib.hid (show KeR n (befB l ps) os true from ⟨fun _ => rfl, fun _ => hkeep⟩)
      have hz : z = -1 := by
        rcases HZ.out with h | h
        · exact h.2
        · exact absurd ⟨HPER.out, hkeep⟩ h.1
      clear hkeep
      subst hz
      go_enter Tryd.func29, Tryd.ntmps29
      go_wp2_with (first | (go_at_call 20; (with_reducible refine (may_s _ HM0 (HLG.out.plus (by repeat' (first | exact Plus.refl _ | refine Plus.alloc ?_ _ | refine Plus.plus ?_ _ | refine Plus.drew ?_ | refine Plus.drewN ?_ _)))).mono ?_); rintro e xw ⟨rfl, ⟨ym, rfl⟩⟩) | (go_at_call 18; (with_reducible refine (before_m _ (HLA.out.plus (by repeat' (first | exact Plus.refl _ | refine Plus.alloc ?_ _ | refine Plus.plus ?_ _ | refine Plus.drew ?_ | refine Plus.drewN ?_ _))) (HLG.out.plus (by repeat' (first | exact Plus.refl _ | refine Plus.alloc ?_ _ | refine Plus.plus ?_ _ | refine Plus.drew ?_ | refine Plus.drewN ?_ _))) HMM HK).mono ?_); rintro e xw ⟨p1, hs1, rfl, hR1, ⟨x2, rfl⟩⟩; have HR1 := Lib.hid hR1; clear hR1) | (go_at_call 65; (with_reducible refine (places_t _ (HOS.out.plus (by repeat' (first | exact Plus.refl _ | refine Plus.alloc ?_ _ | refine Plus.plus ?_ _ | refine Plus.drew ?_ | refine Plus.drewN ?_ _))) (by omega) HPER).mono ?_); rintro e xw ⟨D, cD, P, rfl, hAP, hPL, ⟨x1, rfl⟩⟩; have HAP := Lib.hid hAP; have HPL := Lib.hid hPL; clear hAP hPL) | (go_at_call 66; (with_reducible refine (keeps_n _ (HLA.out.plus (by repeat' (first | exact Plus.refl _ | refine Plus.alloc ?_ _ | refine Plus.plus ?_ _ | refine Plus.drew ?_ | refine Plus.drewN ?_ _))) (HR1.out.plus (by repeat' (first | exact Plus.refl _ | refine Plus.alloc ?_ _ | refine Plus.plus ?_ _ | refine Plus.drew ?_ | refine Plus.drewN ?_ _))) (HAP.out.plus (by repeat' (first | exact Plus.refl _ | refine Plus.alloc ?_ _ | refine Plus.plus ?_ _ | refine Plus.drew ?_ | refine Plus.drewN ?_ _))) (by omega) (by omega) HE (by omega) HPER.out HPL.out HKR).mono ?_); rintro e xw ⟨rfl, ⟨x3, rfl⟩⟩))
      go_returns
      exact ⟨rfl, (by repeat' (first | exact Plus.refl _ | refine Plus.alloc ?_ _ | refine Plus.plus ?_ _ | refine Plus.drew ?_ | refine Plus.drewN ?_ _))⟩
    · have HKR := Lib.hid (show KeR n (befB l ps) os false from ⟨fun h => absurd h hkeep, fun h => by cases h⟩)
      have hz : z = 0 := by
        rcases HZ.out with h | h
        · exact absurd h.1.2 hkeep
        · exact h.2
      clear hkeep
      subst hz
      go_enter Tryd.func29, Tryd.ntmps29
      go_wp2_with (first | (go_at_call 20; (with_reducible refine (may_s _ HM0 (HLG.out.plus (by repeat' (first | exact Plus.refl _ | refine Plus.alloc ?_ _ | refine Plus.plus ?_ _ | refine Plus.drew ?_ | refine Plus.drewN ?_ _)))).mono ?_); rintro e xw ⟨rfl, ⟨ym, rfl⟩⟩) | (go_at_call 18; (with_reducible refine (before_m _ (HLA.out.plus (by repeat' (first | exact Plus.refl _ | refine Plus.alloc ?_ _ | refine Plus.plus ?_ _ | refine Plus.drew ?_ | refine Plus.drewN ?_ _))) (HLG.out.plus (by repeat' (first | exact Plus.refl _ | refine Plus.alloc ?_ _ | refine Plus.plus ?_ _ | refine Plus.drew ?_ | refine Plus.drewN ?_ _))) HMM HK).mono ?_); rintro e xw ⟨p1, hs1, rfl, hR1, ⟨x2, rfl⟩⟩; have HR1 := Lib.hid hR1; clear hR1) | (go_at_call 65; (with_reducible refine (places_t _ (HOS.out.plus (by repeat' (first | exact Plus.refl _ | refine Plus.alloc ?_ _ | refine Plus.plus ?_ _ | refine Plus.drew ?_ | refine Plus.drewN ?_ _))) (by omega) HPER).mono ?_); rintro e xw ⟨D, cD, P, rfl, hAP, hPL, ⟨x1, rfl⟩⟩; have HAP := Lib.hid hAP; have HPL := Lib.hid hPL; clear hAP hPL) | (go_at_call 66; (with_reducible refine (keeps_n _ (HLA.out.plus (by repeat' (first | exact Plus.refl _ | refine Plus.alloc ?_ _ | refine Plus.plus ?_ _ | refine Plus.drew ?_ | refine Plus.drewN ?_ _))) (HR1.out.plus (by repeat' (first | exact Plus.refl _ | refine Plus.alloc ?_ _ | refine Plus.plus ?_ _ | refine Plus.drew ?_ | refine Plus.drewN ?_ _))) (HAP.out.plus (by repeat' (first | exact Plus.refl _ | refine Plus.alloc ?_ _ | refine Plus.plus ?_ _ | refine Plus.drew ?_ | refine Plus.drewN ?_ _))) (by omega) (by omega) HE (by omega) HPER.out HPL.out HKR).mono ?_); rintro e xw ⟨rfl, ⟨x3, rfl⟩⟩))
      go_returns
      exact ⟨rfl, (by repeat' (first | exact Plus.refl _ | refine Plus.alloc ?_ _ | refine Plus.plus ?_ _ | refine Plus.drew ?_ | refine Plus.drewN ?_ _))⟩
  · have HPER := Lib.hid hper
    have hz : z = 0 := by
      rcases HZ.out with h | h
      · exact absurd h.1.1 hper
      · exact h.2
    clear hper
    subst hz
    go_enter Tryd.func29, Tryd.ntmps29
    go_wp2_with (first | (go_at_call 20; (with_reducible refine (may_s _ HM0 (HLG.out.plus (by repeat' (first | exact Plus.refl _ | refine Plus.alloc ?_ _ | refine Plus.plus ?_ _ | refine Plus.drew ?_ | refine Plus.drewN ?_ _)))).mono ?_); rintro e xw ⟨rfl, ⟨ym, rfl⟩⟩) | (go_at_call 65; (with_reducible refine (places_f _ (HOS.out.plus (by repeat' (first | exact Plus.refl _ | refine Plus.alloc ?_ _ | refine Plus.plus ?_ _ | refine Plus.drew ?_ | refine Plus.drewN ?_ _))) (by omega) HPER).mono ?_); rintro e xw ⟨rfl, ⟨x1, rfl⟩⟩))
    go_returns
    exact ⟨rfl, (by repeat' (first | exact Plus.refl _ | refine Plus.alloc ?_ _ | refine Plus.plus ?_ _ | refine Plus.drew ?_ | refine Plus.drewN ?_ _))⟩
set_option maxRecDepth 100000 in
set_option maxHeartbeats 4000000 in
theorem ordered_f {l : List Ev} {ps : List Pr} {A B : Option Addr} {n c m d : Nat} {O : Option Addr} {no co : Nat} (w : World) (H : Lg w l ps A n c B m d) (HM0 : Hid (MayR l ps false)) : Calls Tryd.prog 29 #[.agg #[.slice A n c, .slice B m d], .slice O no co] w fun e w' => e = .returned (.int .i64 0) ∧ Plus w w' := by
  have HLG := Lib.hid H
  clear H
  go_enter Tryd.func29, Tryd.ntmps29
  go_wp2_with (go_at_call 20; (with_reducible refine (may_s _ HM0 (HLG.out.plus (by repeat' (first | exact Plus.refl _ | refine Plus.alloc ?_ _ | refine Plus.plus ?_ _ | refine Plus.drew ?_ | refine Plus.drewN ?_ _)))).mono ?_); rintro e xw ⟨rfl, ⟨ym, rfl⟩⟩)
  go_returns
  exact ⟨rfl, (by repeat' (first | exact Plus.refl _ | refine Plus.alloc ?_ _ | refine Plus.plus ?_ _ | refine Plus.drew ?_ | refine Plus.drewN ?_ _))⟩
end
end Go.Proofs.YtmfdlcicbiincaaDoor
