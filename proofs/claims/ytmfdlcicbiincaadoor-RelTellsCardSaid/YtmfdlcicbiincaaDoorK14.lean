/- addSteps. -/
import Derived.RangeFuncBox
import Derived.RangeFuncNested
import Derived.RangeFuncBound
import Derived.RangeFuncCalls
import Derived.RangeFuncLeaves
import Derived.Shelf.Abstract
import Derived.Shelf.RegionOpen
import Derived.WalkKit
import Derived.OwnWalkIn
import Derived.TacticsInMore
import Derived.LoopNIn
import Derived.LoopIn
import Derived.Maps.AppendAt
import Derived.KernelRfl
import Derived.Lib.Hide
import Derived.WalkSpells
import Derived.Handy
import Derived.Maps.OwnIn
import Derived.Maps.Views
import Derived.Carry
import Derived.Test.YtmfdlcicbiincaaDoorK13
namespace Go.Proofs.YtmfdlcicbiincaaDoor
open Go.RowKit

open Go.Shelf
attribute [local go_sem] Oper.semAt_some

/-- The last event of an agent before event b. -/
def lastB (l : List Ev) : Nat → Int → Option Nat
  | 0, _ => none
  | b + 1, g => if (l.getD b default).g = g then some b else lastB l b g
theorem lastB_lt {l : List Ev} {g : Int} {a : Nat} : ∀ {b : Nat}, lastB l b g = some a → a < b
  | 0, h => by cases h
  | b + 1, h => by
    unfold lastB at h
    split at h
    · injection h with h; omega
    · exact Nat.lt_succ_of_lt (lastB_lt h)
/-- Each event and the next one of its agent. -/
def stpB (l : List Ev) (a b : Nat) : Bool := decide (b < l.length) && decide (lastB l b (l.getD b default).g = some a)
/-- What the map holds ahead of event b. -/
def MapI (l : List Ev) (b : Nat) (D : DataW Nat) : Prop := Maps.IsMap D ∧ ∀ g : Int, Maps.has D (.int .i64 g) = (lastB l b g).isSome ∧ ∀ a, lastB l b g = some a → D.atKey (.int .i64 g) (.lit (.int .i64 0)) = .lit (.int .i64 a)
theorem MapI.put {l : List Ev} {b : Nat} {D : DataW Nat} (h : MapI l b D) {g : Int} (hg : (l.getD b default).g = g) : MapI l (b + 1) (D.put (.int .i64 g) (.lit (.int .i64 b))) := by
  refine ⟨h.1.put _ _, fun g' => ?_⟩
  by_cases e : g = g'
  · subst e
    have q : lastB l (b + 1) g = some b := by unfold lastB; rw [if_pos hg]
    rw [q]
    refine ⟨Maps.has_put_same h.1 (k := .int .i64 g) (show WideAt.IsKeyLit (.int .i64 g) from trivial) _, fun a ha => ?_⟩
    injection ha with ha
    subst ha
    exact Maps.atKey_put_same h.1 (k := .int .i64 g) (show WideAt.IsKeyLit (.int .i64 g) from trivial) _ _
  · have q : lastB l (b + 1) g' = lastB l b g' := by unfold lastB; rw [if_neg (by rw [hg]; exact e)]; cases b <;> rfl
    have ne : (Lit.int .i64 g') ≠ .int .i64 g := fun e2 => by injection e2 with _ e2; exact e e2.symm
    rw [q, Maps.has_put_other ne, Maps.atKey_put_other ne]
    exact h.2 g'
def As0 (w0 : World) (l : List Ev) (n K B p mb : Nat) (R : Nat → Nat → Bool) (hs : List Nat) (s12 : Value) (wr : World) : Prop := ∃ (b : Nat) (D : DataW Nat), s12 = .int .i64 b ∧ b ≤ n ∧ Rl wr B p n K (fun x y => R x y || (stpB l x y && decide (y < b))) hs ∧ wr.ownsMap Tryd.prog 3 (plainElem Tryd.prog 3) mb b D ∧ MapI l b D ∧ Below w0.heap.size w0 wr
theorem map_kr {w w' : World} {k : TypeId} {Rd' : Value → Option (DataW Nat × List MemPlace)} {mb n : Nat} {D : DataW Nat} (h : w.ownsMap Tryd.prog k Rd' mb n D) (hg : w.grownBy w' (some mb)) : KR w w' := .grown hg fun r cur e z hr hk => by
  injection hr with hr
  subst hr
  obtain ⟨es, clock, hb, _⟩ := h
  rw [hb] at hk
  injection hk with hk
  cases hk
theorem map_ne {w : World} {k : TypeId} {Rd' : Value → Option (DataW Nat × List MemPlace)} {mb n h K : Nat} {s : Nat → Bool} {D : DataW Nat} (hm : w.ownsMap Tryd.prog k Rd' mb n D) (hr : Rw w h K s) : some mb ≠ some h := fun e => by
  injection e with e
  subst e
  obtain ⟨es, clock, hb, _⟩ := hm
  obtain ⟨cur, hh, _⟩ := hr
  rw [hh] at hb
  injection hb with hb
  cases hb
theorem stp_now {l : List Ev} {x b : Nat} {g : Int} (hu : (l.getD b default).g = g) (hb : b < l.length) : stpB l x b = decide (lastB l b g = some x) := by
  unfold stpB
  rw [hu]
  simp [hb]
theorem stp_ext {Rr S : Bool} {y b : Nat} {s : Bool} (hs : y = b → s = S) : (Rr || (s && decide (y < b + 1))) = ((Rr || (s && decide (y < b))) || (S && y == b)) := by
  by_cases e : y = b
  · subst e
    rw [hs rfl]
    simp
  · have e1 : decide (y < b + 1) = decide (y < b) := by simp only [decide_eq_decide]; omega
    have e2 : (y == b) = false := by simp [e]
    rw [e1, e2, Bool.and_false, Bool.or_false]
theorem wf_i64 {g : Int} (h0 : -9223372036854775808 ≤ g) (h1 : g ≤ 9223372036854775807) : (Lit.int .i64 g).wf = true := by
  unfold Lit.wf
  simp [IntKind.min, IntKind.max, IntKind.signed, IntKind.bits]
  omega
set_option maxRecDepth 100000 in
set_option maxHeartbeats 4000000 in
theorem addSteps_in {l : List Ev} {A : Option Addr} {rs : List ER} {n c K B p : Nat} {R : Nat → Nat → Bool} {hs : List Nat} (w0 w : World) (hp : Plus w0 w) (HE : Es w0 A rs n c) (hl : Hid (rs.map (·.e) = l)) (H : Rl w B p n K R hs) (hB : w0.heap.size ≤ B) (hk : Hid (n ≤ 64 * K ∧ K ≤ 1000)) (hn : n ≤ 1000) (hg : Hid (∀ b, b < n → 0 ≤ (l.getD b default).g ∧ (l.getD b default).g ≤ 1000)) : CallsIn Fence.wide 9 Tryd.prog 55 #[.pointer (some ⟨p, 0, none⟩), .slice A n c] w fun e w' => (∃ v, e = .returned v) ∧ Rl w' B p n K (fun x y => R x y || stpB l x y) hs ∧ Plus w0 w' := by
  obtain ⟨x0, rfl⟩ := hp
  have hcap := HE.cap
  have hmax := HE.max
  have hln := Lib.hid (show n = l.length by rw [← hl.out, List.length_map]; exact HE.len)
  have HE' := Lib.hid HE
  have HR := Lib.hid H
  have HBB := Lib.hid hB
  clear HE H hB
  have hmm := @run_makeMap Tryd.prog
  refine callsIn_of_wp Tryd.func55 rfl trivial ?_ rfl
  simp only [Tryd.ntmps55, List.size_toArray, List.length_cons, List.length_nil, Nat.reduceAdd, Nat.reduceSub, Array.replicate_succ, Array.replicate_zero, List.push_toArray, List.append_toArray, List.nil_append, List.cons_append]
  gi_wp2
  obtain ⟨mb, hmb⟩ : ∃ mb, w0.heap.size + x0.blocks.length = mb := ⟨_, rfl⟩
  have hown0 : ((plus w0 x0).alloc (.map #[] 0)).ownsMap Tryd.prog 3 (plainElem Tryd.prog 3) mb 0 (.map [] : DataW Nat) := by
    rw [← hmb, ← size_plus]
    exact World.ownsMap_made _ _ _ _
  rw [hmb]
  gi_loopw [12] (fun s12 wr => As0 w0 l n K B p mb R hs s12 wr) (fun s12 _ => ((n : Int) - intOf s12).toNat)
  case atStart =>
    refine ⟨0, _, rfl, Nat.zero_le _, (HR.out.plus (Plus.alloc (Plus.refl _) _)).ext (fun a b _ _ => by simp), hown0, ⟨Maps.isMap_empty, fun g => ⟨rfl, fun a h => by cases h⟩⟩, Plus.below (by repeat' (first | exact Plus.refl _ | refine Plus.alloc ?_ _ | refine Plus.plus ?_ _ | refine Plus.drew ?_ | refine Plus.drewN ?_ _))⟩
  case round =>
    obtain ⟨b, D, rfl, hb, hRw, hOw, hMI, hBl⟩ := hrel
    clear HR hown0
    obtain ⟨x3, rfl⟩ := Plus.of_below hBl
    have HRl := Lib.hid hRw
    have HO := Lib.hid hOw
    have HMI := Lib.hid hMI
    have HB := Lib.hid hBl
    clear hRw hOw hMI hBl
    by_cases hlt : b < n
    · obtain ⟨g, o, x, rfl, hx, hxm, _, q0, q1, q2, q3, q4, q5, q6, q7, q8, q9⟩ := (HE'.out.plus (Plus.is x3)).at_ hlt
      have hu := getD_map (show b < rs.length by rw [← HE'.out.len]; exact hlt) hx
      rw [hl.out] at hu
      obtain ⟨⟨g1, k1, s1, t1, b1, a1, z1, xs1, us1, fs1⟩, R1, cr1, W1, cw1, F1, cf1⟩ := x
      simp only at q0 q1 q2 q3 q4 q5 q6 q7 q8 q9 hu
      have hadd := add_addr g o (b * 10)
      obtain ⟨hg0, hg1⟩ := hg.out b hlt
      rw [hu] at hg0 hg1
      simp only at hg0 hg1
      have hkey := Maps.keyOf_int_mk (P := Tryd.prog) Tryd.underlying3 (wf_i64 (g := g1) (by omega) (by omega))
      have HU := Lib.hid (show (l.getD b default).g = g1 by rw [hu])
      have hlt' : (b : Int) < n := by omega
      have hmbl := HO.out.lt
      clear hu hxm hx
      cases hla : lastB l b g1 with
      | none =>
        have hhas := (HMI.out.2 g1).1
        rw [hla] at hhas
        have hhas2 : Maps.has D (.int .i64 g1) = false := hhas
        gi_wp2_with (first
          | (gi_at_lookup; refine wpListIn_lookup_own_ok_int _ rfl _ _ 101 rfl 3 3 .i64 (Maps.int_keyed Tryd.underlying3) Tryd.underlying101 Tryd.underlying3 (Tryd.zeroValue3 _) mb b D rfl (HO.out.alloc _) _ _ rfl hkey ?_; intro cc hat hwc; rw [hhas2])
          | (gi_at_mapUpdate; refine wpListIn_mapUpdate_own _ rfl _ _ _ 101 rfl 3 3 (Maps.int_keyed Tryd.underlying3) Tryd.underlying101 _ mb b D rfl (HO.out.alloc _) (by unfold maxLen; omega) _ _ _ rfl rfl hkey _ [] (plainElem_int Tryd.underlying3 (wf_i64 (g := (b : Int)) (by omega) (by omega))) ?_; intro w1 hown1 hgr1))
        go_roundw
        case rel =>
          refine ⟨b + 1, _, int_eq (by omega), by omega, ((HRl.out.plus (Plus.alloc (Plus.refl _) _)).kr (map_kr (HO.out.alloc _) hgr1)).ext (fun x y _ _ => ?_), hown1, HMI.out.put HU.out, (HB.out.alloc (by simp [go_sem]) _).grown hgr1 (by simp [go_sem]; omega) (fun j hj => by injection hj with hj; omega)⟩
          rw [stp_ext (S := false) (fun e => by rw [e, stp_now HU.out (by rw [← hln.out]; exact hlt), hla]; simp)]
          simp
        case measure => simp [intOf]; omega
      | some a =>
        have hab := lastB_lt hla
        have hhas := (HMI.out.2 g1).1
        rw [hla] at hhas
        have hhas2 : Maps.has D (.int .i64 g1) = true := hhas
        have hat2 := Lib.hid ((HMI.out.2 g1).2 a hla)
        have HLA := Lib.hid hla
        have han : a < n := by omega
        obtain ⟨g2, c2, h, hh, hb0, hc0, hgg, hcl, hfz, hrow⟩ := HRl.out.at_ han
        have HW := Lib.hid hrow
        have hbc := hb0.cell
        have hbl := hb0.lt
        haveI : Old p (plus w0 x3) := ⟨hb0.lt⟩
        haveI : Old g2 (plus w0 x3) := ⟨hgg⟩
        have han' : (a : Int) < n := by omega
        have hkk := hk.out
        have hhl := hrow.lt
        rw [size_plus] at hhl
        have hne : ¬ (h = w0.heap.size + x3.blocks.length) := by omega
        have hne2 : ¬ (w0.heap.size + x3.blocks.length = h) := by omega
        clear hrow hb0 hfz hla hhas
        gi_wp2_with (first
          | (gi_at_lookup; refine wpListIn_lookup_own_ok_int _ rfl _ _ 101 rfl 3 3 .i64 (Maps.int_keyed Tryd.underlying3) Tryd.underlying101 Tryd.underlying3 (Tryd.zeroValue3 _) mb b D rfl (HO.out.alloc _) _ _ rfl hkey ?_; intro cc hat hwc; rw [hhas2]; have hcc : cc = (a : Int) := (by rw [hat2.out] at hat; injection hat with hat; injection hat with _ hat; exact hat.symm))
          | (refine ⟨trivial, ?_⟩; gi_at_call 48; (refine (callsIn_wide.2 (add_c _ (HW.out.plus (Plus.alloc (Plus.refl _) _)) (show b < 64 * K by omega) (by omega) (Nat.le_refl _))).mono ?_); rintro e xw ⟨⟨v, rfl⟩, hw'⟩; rw [hw']; clear hw')
          | (gi_at_mapUpdate; refine wpListIn_mapUpdate_own _ rfl _ _ _ 101 rfl 3 3 (Maps.int_keyed Tryd.underlying3) Tryd.underlying101 _ mb b D rfl (((HO.out.kept (grown_set _ _ _ _) (map_ne HO.out HW.out)).alloc _).drew) (by unfold maxLen; omega) _ _ _ rfl rfl hkey _ [] (plainElem_int Tryd.underlying3 (wf_i64 (g := (b : Int)) (by omega) (by omega))) ?_; intro w1 hown1 hgr1))
        go_roundw
        case rel =>
          refine ⟨b + 1, _, int_eq (by omega), by omega, ((((HRl.out.setBit han hh.out).plus (Plus.alloc (Plus.refl _) _)).plus (Plus.drew (Plus.refl _))).kr (map_kr (((HO.out.kept (grown_set _ _ _ _) (map_ne HO.out HW.out)).alloc _).drew) hgr1)).ext (fun x y _ _ => ?_), hown1, HMI.out.put HU.out, ?_⟩
          · rw [stp_ext (S := x == a) (fun e => by
              rw [e, stp_now HU.out (by rw [← hln.out]; exact hlt), HLA.out]
              by_cases e2 : x = a
              · subst e2; simp
              · have e3 : ¬ a = x := fun e4 => e2 e4.symm
                simp [e2, e3])]
            rfl
          · exact (((Below.set HB.out (Nat.le_trans HBB.out (HRl.out.lowat han hh.out))).alloc (by simp [go_sem]) _).drew).grown hgr1 (by simp [go_sem]; omega) (fun j hj => by injection hj with hj; omega)
        case measure => simp [intOf]; omega
    · obtain rfl : b = n := by omega
      gi_wp2
      go_end0
      refine ⟨⟨_, rfl⟩, HRl.out.ext (fun x y _ _ => ?_), Plus.is x3⟩
      have q : stpB l x y = true → y < b := fun h => by
        unfold stpB at h
        rw [← hln.out] at h
        simp at h
        exact h.1
      cases h : stpB l x y
      · rfl
      · simp [q h]
end Go.Proofs.YtmfdlcicbiincaaDoor
