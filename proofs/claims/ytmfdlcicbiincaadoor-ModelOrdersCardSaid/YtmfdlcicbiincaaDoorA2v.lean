/- Walk of ModelOrders. -/
import Derived.WalkKit
import Derived.WalkSpells
import Derived.WalkLawsBesides
import Derived.Handy
import Derived.Deep.RegionHeld3
import Derived.Deep.DeepCutAuto
import Derived.Deep.QuietTactic
import Derived.BigQuiet
import Derived.Lib.Hide
import Derived.KernelRfl
import Derived.WalkMore
import Derived.Deep.LoopGhost
import Derived.IntWalk
import Derived.Deep.RegionLaw
import Derived.RangeFuncBox
import Derived.Test.YtmfdlcicbiincaaDoorMF
import Derived.Test.YtmfdlcicbiincaaDoorA2u
namespace Go.Proofs.YtmfdlcicbiincaaDoor
open Go.RowKit


def RetF4 (l : List Ev) (n m : Nat) (w : World) (e : Ending) (w' : World) : Prop := ∃ b : Bool, e = .returned (.bool b) ∧ (b = true → (n : Int) ≤ 40 ∧ (m : Int) ≤ 40 ∧ SmL l) ∧ Plus w w'
theorem few40 {l : List Ev} {ps : List Pr} {A B : Option Addr} {n c m d : Nat} (w : World) (h : Lg w l ps A n c B m d) : Calls Tryd.prog 11 #[.agg #[.slice A n c, .slice B m d], .int .i64 40] w (RetF4 l n m w) := few_s w h (by omega) (by omega)
theorem swap_at {os : List Int} {a i : Nat} {v1 v2 : Int} (ha : a + 1 < os.length) : ((os.set a v2).set (a + 1) v1).getD i 0 = if i = a + 1 then v1 else if i = a then v2 else os.getD i 0 := by
  rw [getD_set (by rw [List.length_set]; exact ha), getD_set (by omega)]
theorem swap_ord {n : Nat} {B : Nat → Nat → Bool} {os : List Int} {a : Nat} {v1 v2 : Int} (h : OrdP n B os) (ha : a + 1 < n) (h1 : os.getD a 0 = v1) (h2 : os.getD (a + 1) 0 = v2) (hB : B v1.toNat v2.toNat = false) : OrdP n B ((os.set a v2).set (a + 1) v1) := by
  obtain ⟨⟨hl, hr, hd⟩, hk⟩ := h
  have hd2 : ∀ i j, i ≠ j → i < n → j < n → os.getD i 0 ≠ os.getD j 0 := fun i j hij hi hj => by
    rcases Nat.lt_or_gt_of_ne hij with q | q
    · exact hd i j q hj
    · exact fun e => hd j i q hi e.symm
  refine ⟨⟨by rw [List.length_set, List.length_set, hl], fun i hi => ?_, fun i j hij hj => ?_⟩, fun i j hij hj => ?_⟩
  · rw [swap_at (by omega)]
    split
    · rw [← h1]; exact hr a (by omega)
    · split
      · rw [← h2]; exact hr (a + 1) (by omega)
      · exact hr i hi
  · rw [swap_at (by omega), swap_at (by omega), ← h1, ← h2]
    repeat' split
    all_goals first
      | omega
      | exact hd2 _ _ (by omega) (by omega) (by omega)
  · rw [swap_at (by omega), swap_at (by omega)]
    by_cases e1 : i = a ∧ j = a + 1
    · obtain ⟨rfl, rfl⟩ := e1
      rw [if_pos rfl, if_neg (by omega), if_pos rfl]
      exact hB
    · rw [← h1, ← h2]
      repeat' split
      all_goals first
        | omega
        | exact hk _ _ (by omega) (by omega)
theorem copyI_n {A : Option Addr} {xs : List Int} {n c : Nat} (w : World) (h : Ar .i64 w A xs n c) (h0 : 0 < n) (hl : n ≤ 1048576) : Calls Tryd.prog 24 #[.slice A n c] w fun e w' => ∃ g cg, e = .returned (.slice (some ⟨g, 0, none⟩) n cg) ∧ w.heap.size ≤ g ∧ Own .i64 w' g xs ∧ n ≤ cg ∧ cg ≤ 9223372036854775807 ∧ Plus w w' := by
  have hn := h.len
  refine (copyI_c A xs n c w h hl).mono fun e w' ⟨D, cg, he, ho, hp⟩ => ?_
  obtain ⟨g, rfl, hg, hO, hc, hm⟩ := own_row ho (by rw [← hn]; exact h0)
  exact ⟨g, cg, by rw [he, ← hn], hg, hO, by rw [hn]; exact hc, hm, hp⟩
/-- What the outer loop has seen of i of the order's numbers. -/
def GoR (n : Nat) (B : Nat → Nat → Bool) (os : List Int) (i : Nat) (t : Bool) : Prop := ((∀ k, k < i → 0 ≤ os.getD k 0 ∧ os.getD k 0 < n) ∧ ∀ j k, j < k → k < i → os.getD j 0 ≠ os.getD k 0) ∧ (t = true ↔ os.length = n ∧ ∀ j k, j < k → k < i → B (os.getD k 0).toNat (os.getD j 0).toNat = false)
def GiR (n : Nat) (B : Nat → Nat → Bool) (os : List Int) (i k : Nat) (t : Bool) : Prop := t = true ↔ os.length = n ∧ (∀ j k, j < k → k < i → B (os.getD k 0).toNat (os.getD j 0).toNat = false) ∧ ∀ q, q < k → B (os.getD i 0).toNat (os.getD q 0).toNat = false
def MetR (n : Nat) (os : List Int) (i : Nat) (bs : List Bool) : Prop := bs.length = n ∧ ∀ b, b < n → (bs.getD b false = true ↔ ∃ k, k < i ∧ os.getD k 0 = (b : Int))
def OrS (w1 : World) (n D : Nat) (B : Nat → Nat → Bool) (os : List Int) (s10 s11 : Value) (wr : World) : Prop := ∃ (i : Nat) (t : Bool) (bs : List Bool), s11 = .int .i64 i ∧ s10 = .bool t ∧ i ≤ os.length ∧ Hid (GoR n B os i t) ∧ Hid (MetR n os i bs) ∧ OwnB wr D bs ∧ Plus w1 wr
set_option maxRecDepth 100000 in
set_option maxHeartbeats 16000000 in
theorem orders_t {l : List Ev} {ps : List Pr} {A B : Option Addr} {n c m d : Nat} {K : Nat} {O : Option Addr} {os : List Int} {no co : Nat} {z : Int} (w : World) (HK : Hid (K = (n + 63) / 64)) (HLA : Hid (Lai w)) (HLG : Hid (Lg w l ps A n c B m d)) (HM0 : Hid (MayR l ps true)) (HMM : Hid (MayP l ps)) (HOS : Hid (Ar .i64 w O os no co)) (hz : I64 z) : Calls Tryd.prog 8 #[.agg #[.slice A n c, .slice B m d], .slice O no co, .int .i64 z] w fun e w' => e = .returned (.bool true) ∧ Plus w w' := by
  have hn : n ≤ 1000 := by rw [HLG.out.len.1]; exact HMM.out.1
  have HLN := Lib.hid HLG.out.len.1
  have hno := Lib.hid HOS.out.len
  have hoc := HOS.out.cap
  have hom := HOS.out.max
  have hkk : n ≤ 64 * K ∧ K ≤ 1000 := by rw [HK.out]; omega
  have hmk := run_make_row' (P := Tryd.prog) 60 4 (.bool false) 1 Tryd.underlying60 infoBool rfl .i64 .i64 n (by omega) (by omega)
  by_cases hno4 : (40 : Int) < no
  · go_enter Tryd.func8, Tryd.ntmps8
    go_wp2_with (first | (go_at_call 23; (with_reducible refine (first_c _ (HLA.out.plus (by repeat' (first | exact Plus.refl _ | refine Plus.alloc ?_ _ | refine Plus.plus ?_ _ | refine Plus.drew ?_ | refine Plus.drewN ?_ _)))).mono ?_); rintro e xw ⟨rfl, ⟨y0, rfl⟩⟩) | (go_at_call 11; (with_reducible refine (few40 _ (HLG.out.plus (by repeat' (first | exact Plus.refl _ | refine Plus.alloc ?_ _ | refine Plus.plus ?_ _ | refine Plus.drew ?_ | refine Plus.drewN ?_ _)))).mono ?_); rintro e xw ⟨bf, rfl, hbf, ⟨yf, rfl⟩⟩; have HBF := Lib.hid hbf; clear hbf) | (go_at_call 20; (with_reducible refine (may_s _ HM0 (HLG.out.plus (by repeat' (first | exact Plus.refl _ | refine Plus.alloc ?_ _ | refine Plus.plus ?_ _ | refine Plus.drew ?_ | refine Plus.drewN ?_ _)))).mono ?_); rintro e xw ⟨rfl, ⟨ym, rfl⟩⟩))
    all_goals go_returns
    all_goals exact ⟨rfl, (by repeat' (first | exact Plus.refl _ | refine Plus.alloc ?_ _ | refine Plus.plus ?_ _ | refine Plus.drew ?_ | refine Plus.drewN ?_ _))⟩
  · go_enter Tryd.func8, Tryd.ntmps8
    go_wp2_with (first | (go_at_call 23; (with_reducible refine (first_c _ (HLA.out.plus (by repeat' (first | exact Plus.refl _ | refine Plus.alloc ?_ _ | refine Plus.plus ?_ _ | refine Plus.drew ?_ | refine Plus.drewN ?_ _)))).mono ?_); rintro e xw ⟨rfl, ⟨y0, rfl⟩⟩) | (go_at_call 11; (with_reducible refine (few40 _ (HLG.out.plus (by repeat' (first | exact Plus.refl _ | refine Plus.alloc ?_ _ | refine Plus.plus ?_ _ | refine Plus.drew ?_ | refine Plus.drewN ?_ _)))).mono ?_); rintro e xw ⟨bf, rfl, hbf, ⟨yf, rfl⟩⟩; have HBF := Lib.hid hbf; clear hbf) | (go_at_call 20; (with_reducible refine (may_s _ HM0 (HLG.out.plus (by repeat' (first | exact Plus.refl _ | refine Plus.alloc ?_ _ | refine Plus.plus ?_ _ | refine Plus.drew ?_ | refine Plus.drewN ?_ _)))).mono ?_); rintro e xw ⟨rfl, ⟨ym, rfl⟩⟩) | (go_at_call 18; (with_reducible refine (before_m _ (HLA.out.plus (by repeat' (first | exact Plus.refl _ | refine Plus.alloc ?_ _ | refine Plus.plus ?_ _ | refine Plus.drew ?_ | refine Plus.drewN ?_ _))) (HLG.out.plus (by repeat' (first | exact Plus.refl _ | refine Plus.alloc ?_ _ | refine Plus.plus ?_ _ | refine Plus.drew ?_ | refine Plus.drewN ?_ _))) HMM HK).mono ?_); rintro e xw ⟨p1, hs1, rfl, hR1, ⟨x2, rfl⟩⟩; have HR1 := Lib.hid hR1; clear hR1))
    · have hbf : bf = true := by cases bf <;> simp_all
      subst hbf
      clear HBF
      obtain ⟨W1, hW1⟩ : ∃ W1, plus (plus (plus (plus (w.alloc (.cells #[.slice A n c, .slice B m d] 25)) y0) yf) ym) x2 = W1 := ⟨_, rfl⟩
      have hBX : Bx W1 w.heap.size (.slice A n c) (.slice B m d) := by rw [← hW1]; exact (bx_new w _ _).plus (by repeat' (first | exact Plus.refl _ | refine Plus.alloc ?_ _ | refine Plus.plus ?_ _ | refine Plus.drew ?_ | refine Plus.drewN ?_ _))
      have hP1 : Plus w W1 := by rw [← hW1]; exact (by repeat' (first | exact Plus.refl _ | refine Plus.alloc ?_ _ | refine Plus.plus ?_ _ | refine Plus.drew ?_ | refine Plus.drewN ?_ _))
      have hR1 := HR1.out
      have hsz : W1.heap.size = w.heap.size + 1 + y0.blocks.length + yf.blocks.length + ym.blocks.length + x2.blocks.length := by rw [← hW1]; simp [go_sem]
      first
        | rw [hW1] at hR1 ⊢
        | (have hW2 := hW1; simp only [plus_plus] at hW2 hR1 ⊢; rw [hW2] at hR1 ⊢)
      have HR1 := Lib.hid hR1
      have c0 := hBX.c0
      have c1 := hBX.c1
      have hbl := hBX.lt
      haveI : Old w.heap.size W1 := ⟨hbl⟩
      have HBX := Lib.hid hBX
      clear hBX hW1 hR1
      rw [← hsz]
      clear hsz
      have hB0 := OwnB.zeros W1 n 4 _ (madeB n)
      obtain ⟨D, hD⟩ : ∃ D, W1.heap.size = D := ⟨_, rfl⟩
      rw [hD] at hB0 ⊢
      have hO1 : Ar .i64 W1 O os no co := HOS.out.plus hP1
      have HO1 := Lib.hid hO1
      have HLA1 := Lib.hid (HLA.out.plus hP1)
      have HLG1 := Lib.hid (HLG.out.plus hP1)
      clear hO1 hmk
      go_loopw [10, 11] (fun s10 s11 wr => OrS W1 n D (befB l ps) os s10 s11 wr) (fun _ s11 _ => ((no : Int) - intOf s11).toNat)
      case atStart =>
        refine ⟨0, _, List.replicate n false, rfl, rfl, Nat.zero_le _, Lib.hid ⟨⟨fun k h => absurd h (by omega), fun j k _ h => absurd h (by omega)⟩, ?_⟩, Lib.hid ⟨List.length_replicate .., fun b hb => ⟨fun h => ?_, fun ⟨k, hk, _⟩ => absurd hk (by omega)⟩⟩, hB0, (by repeat' (first | exact Plus.refl _ | refine Plus.alloc ?_ _ | refine Plus.plus ?_ _ | refine Plus.drew ?_ | refine Plus.drewN ?_ _))⟩
        · rw [beq_iff_eq]
          exact ⟨fun h => ⟨by rw [← hno.out]; omega, fun j k _ h => absurd h (by omega)⟩, fun h => by rw [hno.out, h.1]⟩
        · rw [List.getD_eq_getElem?_getD, List.getElem?_replicate, if_pos hb] at h
          cases h
      case round =>
        obtain ⟨i, t, bs, rfl, rfl, hi, HGO, HME, hOB, ⟨x0, rfl⟩⟩ := hrel
        rw [← hno.out] at hi
        clear hB0
        by_cases hlt : i < no
        · have hlt' : (i : Int) < no := by omega
          obtain ⟨og, oof, rfl, hog, hoat⟩ := (HO1.out.plus (Plus.is x0)).rd.at_ (j := i) (by rw [← hno.out]; exact hlt)
          have hog1 : og < W1.heap.size := by
            obtain ⟨g2, o2, e, q, _⟩ := HO1.out.rd.at_ (j := i) (by rw [← hno.out]; exact hlt)
            injection e with e
            injection e with e _ _
            rw [e]
            exact q
          haveI : Old og W1 := ⟨hog1⟩
          have hco := hoat i (by rw [← hno.out]; exact hlt)
          have HOAT := Lib.hid hoat
          have hadd := add_addr og oof i
          obtain ⟨x, hx⟩ : ∃ x, os.getD i 0 = x := ⟨_, rfl⟩
          rw [hx] at hco
          have HX := Lib.hid hx
          clear hoat hx
          by_cases hx0 : x < 0
          · have HNO : Hid (¬ OrdP n (befB l ps) os) := Lib.hid fun q => by
              have := q.1.2.1 i (by have := q.1.1; have := hno.out; omega)
              rw [HX.out] at this
              omega
            have HZO : Hid (OrdR n (befB l ps) os 0) := Lib.hid (.inr ⟨HNO.out, rfl⟩)
            go_wp2_with (first | (go_at_call 29; (with_reducible refine (ordered_t _ (HLA1.out.plus (by repeat' (first | exact Plus.refl _ | refine Plus.alloc ?_ _ | refine Plus.plus ?_ _ | refine Plus.drew ?_ | refine Plus.drewN ?_ _))) (HLG1.out.plus (by repeat' (first | exact Plus.refl _ | refine Plus.alloc ?_ _ | refine Plus.plus ?_ _ | refine Plus.drew ?_ | refine Plus.drewN ?_ _))) HM0 HMM HK (HO1.out.plus (by repeat' (first | exact Plus.refl _ | refine Plus.alloc ?_ _ | refine Plus.plus ?_ _ | refine Plus.drew ?_ | refine Plus.drewN ?_ _))) HZO).mono ?_); rintro e xw ⟨rfl, ⟨z4, rfl⟩⟩))
            refine wp_region_plus (by kernel_rfl) (by kernel_rfl) ?_
            repeat (go_big_quiet_step (fail))
            refine wpQuiet_nil ?_
            intro _ hw'
            obtain ⟨x7, rfl⟩ := hw'
            go_wp2_with (first | (go_at_call 23; (with_reducible refine (first_c _ (HLA1.out.plus (by repeat' (first | exact Plus.refl _ | refine Plus.alloc ?_ _ | refine Plus.plus ?_ _ | refine Plus.drew ?_ | refine Plus.drewN ?_ _)))).mono ?_); rintro e xw ⟨rfl, ⟨y9, rfl⟩⟩))
            go_returns
            exact ⟨rfl, hP1.trans (by repeat' (first | exact Plus.refl _ | refine Plus.alloc ?_ _ | refine Plus.plus ?_ _ | refine Plus.drew ?_ | refine Plus.drewN ?_ _))⟩

          · by_cases hx1 : (n : Int) ≤ x
            · have HNO : Hid (¬ OrdP n (befB l ps) os) := Lib.hid fun q => by
                have := q.1.2.1 i (by have := q.1.1; have := hno.out; omega)
                rw [HX.out] at this
                omega
              have HZO : Hid (OrdR n (befB l ps) os 0) := Lib.hid (.inr ⟨HNO.out, rfl⟩)
              go_wp2_with (first | (go_at_call 29; (with_reducible refine (ordered_t _ (HLA1.out.plus (by repeat' (first | exact Plus.refl _ | refine Plus.alloc ?_ _ | refine Plus.plus ?_ _ | refine Plus.drew ?_ | refine Plus.drewN ?_ _))) (HLG1.out.plus (by repeat' (first | exact Plus.refl _ | refine Plus.alloc ?_ _ | refine Plus.plus ?_ _ | refine Plus.drew ?_ | refine Plus.drewN ?_ _))) HM0 HMM HK (HO1.out.plus (by repeat' (first | exact Plus.refl _ | refine Plus.alloc ?_ _ | refine Plus.plus ?_ _ | refine Plus.drew ?_ | refine Plus.drewN ?_ _))) HZO).mono ?_); rintro e xw ⟨rfl, ⟨z4, rfl⟩⟩))
              refine wp_region_plus (by kernel_rfl) (by kernel_rfl) ?_
              repeat (go_big_quiet_step (fail))
              refine wpQuiet_nil ?_
              intro _ hw'
              obtain ⟨x7, rfl⟩ := hw'
              go_wp2_with (first | (go_at_call 23; (with_reducible refine (first_c _ (HLA1.out.plus (by repeat' (first | exact Plus.refl _ | refine Plus.alloc ?_ _ | refine Plus.plus ?_ _ | refine Plus.drew ?_ | refine Plus.drewN ?_ _)))).mono ?_); rintro e xw ⟨rfl, ⟨y9, rfl⟩⟩))
              go_returns
              exact ⟨rfl, hP1.trans (by repeat' (first | exact Plus.refl _ | refine Plus.alloc ?_ _ | refine Plus.plus ?_ _ | refine Plus.drew ?_ | refine Plus.drewN ?_ _))⟩

            · obtain ⟨b, rfl⟩ : ∃ b : Nat, x = (b : Int) := ⟨x.toNat, by omega⟩
              have hbn : b < n := by omega
              have hbn' : (b : Int) < n := by omega
              have hcb := hOB.cell (j := b) (by rw [HME.out.1]; exact hbn)
              have hfb := hOB.frozen b
              have hlD := hOB.lt
              obtain ⟨mb, hmb⟩ : ∃ v, bs.getD b false = v := ⟨_, rfl⟩
              rw [hmb] at hcb
              have HMB := Lib.hid hmb
              clear hmb
              cases mb
              · have hset := hOB.set (j := b) (v := true) (by rw [HME.out.1]; exact hbn)
                have hP2 : Plus W1 ((plus W1 x0).setCell ⟨D, b, none⟩ (.bool true)) := Plus.of_below ((Plus.below (Plus.is x0)).setCell (p := ⟨D, b, none⟩) (by show W1.heap.size ≤ D; omega) _)
                go_wp2_with fail
                obtain ⟨W2, hW2⟩ : ∃ W2, (plus W1 x0).setCell ⟨D, b, none⟩ (.bool true) = W2 := ⟨_, rfl⟩
                rw [hW2] at hset hP2 ⊢
                clear hW2
                have HSET := Lib.hid hset
                haveI : Old og W2 := ⟨Nat.lt_of_lt_of_le hog1 hP2.below.size⟩
                have HOA2 := Lib.hid (show At .i64 W2 og oof os from (by
                  obtain ⟨g2, o2, e, _, q⟩ := (HO1.out.plus hP2).rd.at_ (j := i) (by rw [← hno.out]; exact hlt)
                  injection e with e
                  injection e with e e2 _
                  rw [e, e2]
                  exact q))
                clear hset hcb hfb hco
                go_loopw [10, 12] (fun s10 s12 wr => ∃ (k : Nat) (t2 : Bool), s12 = .int .i64 k ∧ s10 = .bool t2 ∧ k ≤ i ∧ Hid (GiR n (befB l ps) os i k t2) ∧ Plus W2 wr) (fun _ s12 _ => ((i : Int) - intOf s12).toNat)
                case atStart => exact ⟨0, t, rfl, rfl, Nat.zero_le _, Lib.hid (HGO.out.2.trans ⟨fun h => ⟨h.1, h.2, fun q h => absurd h (by omega)⟩, fun h => ⟨h.1, h.2.1⟩⟩), Plus.refl _⟩
                case round =>
                  obtain ⟨k, t2, rfl, rfl, hk, HGI, ⟨xk, rfl⟩⟩ := hrel
                  by_cases hki : k < i
                  · have hki' : (k : Int) < i := by omega
                    have hkno' : (k : Int) < no := by omega
                    have hc1 := HOA2.out i (by rw [← hno.out]; exact hlt)
                    have hc2 := HOA2.out k (by rw [← hno.out]; omega)
                    have hadd2 := add_addr og oof k
                    have hyv := HGO.out.1.1 k hki
                    obtain ⟨y, hy⟩ : ∃ y : Nat, os.getD k 0 = (y : Int) := ⟨(os.getD k 0).toNat, by omega⟩
                    rw [hy] at hc2 hyv
                    rw [HX.out] at hc1
                    have HY := Lib.hid hy
                    have hyn : y < n := by omega
                    obtain ⟨cc, hcc⟩ : ∃ v, befB l ps b y = v := ⟨_, rfl⟩
                    have HQ := Lib.hid (has_p HR1.out hkk b y hbn hyn cc hcc)
                    have hPk : Plus W1 (plus W2 xk) := hP2.trans (Plus.is xk)
                    have HNX := Lib.hid (show GiR n (befB l ps) os i (k + 1) (t2 && !cc) from by
                      have q := HGI.out
                      unfold GiR at q ⊢
                      rw [Bool.and_eq_true, q]
                      constructor
                      · rintro ⟨⟨h1, h2, h3⟩, h4⟩
                        refine ⟨h1, h2, fun q hq => ?_⟩
                        by_cases e : q = k
                        · rw [e, HX.out, HY.out, Int.toNat_natCast, Int.toNat_natCast, hcc]
                          cases cc
                          · rfl
                          · cases h4
                        · exact h3 q (by omega)
                      · rintro ⟨h1, h2, h3⟩
                        refine ⟨⟨h1, h2, fun q hq => h3 q (by omega)⟩, ?_⟩
                        have h4 := h3 k (by omega)
                        rw [HX.out, HY.out, Int.toNat_natCast, Int.toNat_natCast, hcc] at h4
                        rw [h4]
                        rfl)
                    clear hcc hy
                    go_upto_region 20 with fail
                    cases t2
                    · refine wp_region_plus (by kernel_rfl) (by kernel_rfl) ?_
                      repeat (go_big_quiet_step (fail))
                      refine wpQuiet_nil ?_
                      intro _ hw'
                      obtain ⟨x7, rfl⟩ := hw'
                      go_wp2_with fail
                      go_roundw
                      case rel => exact ⟨k + 1, _, int_eq (by omega), rfl, by omega, HNX, (by repeat' (first | exact Plus.refl _ | refine Plus.alloc ?_ _ | refine Plus.plus ?_ _ | refine Plus.drew ?_ | refine Plus.drewN ?_ _))⟩
                      case measure => simp [intOf]; omega
                    · refine wp_region_plus (by kernel_rfl) (by kernel_rfl) ?_
                      repeat (go_big_quiet_step ((go_at_call 21; exact calls_plus (HQ.out _ (Plus.trans hPk (Plus.is _))))))
                      refine wpQuiet_nil ?_
                      intro _ hw'
                      obtain ⟨x7, rfl⟩ := hw'
                      go_wp2_with fail
                      go_roundw
                      case rel => exact ⟨k + 1, _, int_eq (by omega), rfl, by omega, HNX, (by repeat' (first | exact Plus.refl _ | refine Plus.alloc ?_ _ | refine Plus.plus ?_ _ | refine Plus.drew ?_ | refine Plus.drewN ?_ _))⟩
                      case measure => simp [intOf]; omega
                  · obtain rfl : i = k := by omega
                    have HGX := Lib.hid (show GoR n (befB l ps) os (i + 1) t2 from ⟨⟨fun k hk => by
                      by_cases e : k = i
                      · rw [e, HX.out]; omega
                      · exact HGO.out.1.1 k (by omega), fun j k hjk hk => by
                      by_cases e : k = i
                      · intro e2
                        rw [e, HX.out] at e2
                        have q : bs.getD b false = true := (HME.out.2 b hbn).2 ⟨j, by omega, e2⟩
                        rw [HMB.out] at q
                        cases q
                      · exact HGO.out.1.2 j k hjk (by omega)⟩, HGI.out.trans ⟨fun h => ⟨h.1, fun j k hjk hk => by
                      by_cases e : k = i
                      · rw [e]
                        exact h.2.2 j (by omega)
                      · exact h.2.1 j k hjk (by omega)⟩, fun h => ⟨h.1, fun j k hjk hk => h.2 j k hjk (by omega), fun q hq => h.2 q i hq (by omega)⟩⟩⟩)
                    have HMX := Lib.hid (show MetR n os (i + 1) (bs.set b true) from ⟨by rw [List.length_set]; exact HME.out.1, fun b2 hb2 => by
                      rw [getD_setB (by rw [HME.out.1]; exact hbn)]
                      by_cases e : b2 = b
                      · rw [if_pos e]
                        exact ⟨fun _ => ⟨i, by omega, by rw [HX.out, e]⟩, fun _ => rfl⟩
                      · rw [if_neg e, HME.out.2 b2 hb2]
                        constructor
                        · rintro ⟨k, hk, h⟩
                          exact ⟨k, by omega, h⟩
                        · rintro ⟨k, hk, h⟩
                          by_cases e2 : k = i
                          · rw [e2, HX.out] at h
                            omega
                          · exact ⟨k, by omega, h⟩⟩)
                    have hOX := HSET.out.plus (Plus.is xk)
                    have hPX : Plus W1 (plus W2 xk) := hP2.trans (Plus.is xk)
                    go_wp2_with fail
                    go_roundw
                    case rel => exact ⟨i + 1, t2, _, int_eq (by omega), rfl, by rw [← hno.out]; omega, HGX, HMX, hOX, hPX⟩
                    case measure => simp [intOf]; omega
              · have HNO : Hid (¬ OrdP n (befB l ps) os) := Lib.hid fun q => by
                  obtain ⟨k, hk, e⟩ := (HME.out.2 b hbn).1 HMB.out
                  exact q.1.2.2 k i hk (by have := q.1.1; have := hno.out; omega) (by rw [e, HX.out])
                have HZO : Hid (OrdR n (befB l ps) os 0) := Lib.hid (.inr ⟨HNO.out, rfl⟩)
                go_wp2_with (first | (go_at_call 29; (with_reducible refine (ordered_t _ (HLA1.out.plus (by repeat' (first | exact Plus.refl _ | refine Plus.alloc ?_ _ | refine Plus.plus ?_ _ | refine Plus.drew ?_ | refine Plus.drewN ?_ _))) (HLG1.out.plus (by repeat' (first | exact Plus.refl _ | refine Plus.alloc ?_ _ | refine Plus.plus ?_ _ | refine Plus.drew ?_ | refine Plus.drewN ?_ _))) HM0 HMM HK (HO1.out.plus (by repeat' (first | exact Plus.refl _ | refine Plus.alloc ?_ _ | refine Plus.plus ?_ _ | refine Plus.drew ?_ | refine Plus.drewN ?_ _))) HZO).mono ?_); rintro e xw ⟨rfl, ⟨z4, rfl⟩⟩))
                refine wp_region_plus (by kernel_rfl) (by kernel_rfl) ?_
                repeat (go_big_quiet_step (fail))
                refine wpQuiet_nil ?_
                intro _ hw'
                obtain ⟨x7, rfl⟩ := hw'
                go_wp2_with (first | (go_at_call 23; (with_reducible refine (first_c _ (HLA1.out.plus (by repeat' (first | exact Plus.refl _ | refine Plus.alloc ?_ _ | refine Plus.plus ?_ _ | refine Plus.drew ?_ | refine Plus.drewN ?_ _)))).mono ?_); rintro e xw ⟨rfl, ⟨y9, rfl⟩⟩))
                go_returns
                exact ⟨rfl, hP1.trans (by repeat' (first | exact Plus.refl _ | refine Plus.alloc ?_ _ | refine Plus.plus ?_ _ | refine Plus.drew ?_ | refine Plus.drewN ?_ _))⟩

        · obtain rfl : no = i := by omega
          have hord : OrdP n (befB l ps) os ↔ t = true := by
            rw [HGO.out.2]
            constructor
            · exact fun h => ⟨h.1.1, fun j k hjk hk => h.2 j k hjk (by have := h.1.1; have := hno.out; omega)⟩
            · rintro ⟨h1, h2⟩
              have e : n = no := by rw [hno.out, h1]
              exact ⟨⟨h1, fun k hk => HGO.out.1.1 k (by omega), fun j k hjk hk => HGO.out.1.2 j k hjk (by omega)⟩, fun j k hjk hk => h2 j k hjk (by omega)⟩
          cases t
          · have HNO : Hid (¬ OrdP n (befB l ps) os) := Lib.hid fun q => by cases hord.1 q
            clear hord
            have HZO : Hid (OrdR n (befB l ps) os 0) := Lib.hid (.inr ⟨HNO.out, rfl⟩)
            go_wp2_with (first | (go_at_call 29; (with_reducible refine (ordered_t _ (HLA1.out.plus (by repeat' (first | exact Plus.refl _ | refine Plus.alloc ?_ _ | refine Plus.plus ?_ _ | refine Plus.drew ?_ | refine Plus.drewN ?_ _))) (HLG1.out.plus (by repeat' (first | exact Plus.refl _ | refine Plus.alloc ?_ _ | refine Plus.plus ?_ _ | refine Plus.drew ?_ | refine Plus.drewN ?_ _))) HM0 HMM HK (HO1.out.plus (by repeat' (first | exact Plus.refl _ | refine Plus.alloc ?_ _ | refine Plus.plus ?_ _ | refine Plus.drew ?_ | refine Plus.drewN ?_ _))) HZO).mono ?_); rintro e xw ⟨rfl, ⟨z4, rfl⟩⟩))
            refine wp_region_plus (by kernel_rfl) (by kernel_rfl) ?_
            repeat (go_big_quiet_step (fail))
            refine wpQuiet_nil ?_
            intro _ hw'
            obtain ⟨x7, rfl⟩ := hw'
            go_wp2_with (first | (go_at_call 23; (with_reducible refine (first_c _ (HLA1.out.plus (by repeat' (first | exact Plus.refl _ | refine Plus.alloc ?_ _ | refine Plus.plus ?_ _ | refine Plus.drew ?_ | refine Plus.drewN ?_ _)))).mono ?_); rintro e xw ⟨rfl, ⟨y9, rfl⟩⟩))
            go_returns
            exact ⟨rfl, hP1.trans (by repeat' (first | exact Plus.refl _ | refine Plus.alloc ?_ _ | refine Plus.plus ?_ _ | refine Plus.drew ?_ | refine Plus.drewN ?_ _))⟩
          · have HORD := Lib.hid (hord.2 rfl)
            have HZO : Hid (OrdR n (befB l ps) os (-1)) := Lib.hid (.inl ⟨HORD.out, rfl⟩)
            obtain rfl : n = no := by rw [hno.out]; exact HORD.out.1.1.symm
            clear hord
            go_wp2_with (first | (go_at_call 29; (with_reducible refine (ordered_t _ (HLA1.out.plus (by repeat' (first | exact Plus.refl _ | refine Plus.alloc ?_ _ | refine Plus.plus ?_ _ | refine Plus.drew ?_ | refine Plus.drewN ?_ _))) (HLG1.out.plus (by repeat' (first | exact Plus.refl _ | refine Plus.alloc ?_ _ | refine Plus.plus ?_ _ | refine Plus.drew ?_ | refine Plus.drewN ?_ _))) HM0 HMM HK (HO1.out.plus (by repeat' (first | exact Plus.refl _ | refine Plus.alloc ?_ _ | refine Plus.plus ?_ _ | refine Plus.drew ?_ | refine Plus.drewN ?_ _))) HZO).mono ?_); rintro e xw ⟨rfl, ⟨z4, rfl⟩⟩))
            by_cases hz0 : z < 0
            · refine wp_region_plus (by kernel_rfl) (by kernel_rfl) ?_
              repeat (go_big_quiet_step (fail))
              refine wpQuiet_nil ?_
              intro _ hw'
              obtain ⟨x7, rfl⟩ := hw'
              go_wp2_with (first | (go_at_call 23; (with_reducible refine (first_c _ (HLA1.out.plus (by repeat' (first | exact Plus.refl _ | refine Plus.alloc ?_ _ | refine Plus.plus ?_ _ | refine Plus.drew ?_ | refine Plus.drewN ?_ _)))).mono ?_); rintro e xw ⟨rfl, ⟨y9, rfl⟩⟩))
              go_returns
              exact ⟨rfl, hP1.trans (by repeat' (first | exact Plus.refl _ | refine Plus.alloc ?_ _ | refine Plus.plus ?_ _ | refine Plus.drew ?_ | refine Plus.drewN ?_ _))⟩
            · by_cases hz1 : (n : Int) - 1 ≤ z
              · refine wp_region_plus (by kernel_rfl) (by kernel_rfl) ?_
                repeat (go_big_quiet_step (fail))
                refine wpQuiet_nil ?_
                intro _ hw'
                obtain ⟨x7, rfl⟩ := hw'
                go_wp2_with (first | (go_at_call 23; (with_reducible refine (first_c _ (HLA1.out.plus (by repeat' (first | exact Plus.refl _ | refine Plus.alloc ?_ _ | refine Plus.plus ?_ _ | refine Plus.drew ?_ | refine Plus.drewN ?_ _)))).mono ?_); rintro e xw ⟨rfl, ⟨y9, rfl⟩⟩))
                go_returns
                exact ⟨rfl, hP1.trans (by repeat' (first | exact Plus.refl _ | refine Plus.alloc ?_ _ | refine Plus.plus ?_ _ | refine Plus.drew ?_ | refine Plus.drewN ?_ _))⟩
              · obtain ⟨a, rfl⟩ : ∃ a : Nat, z = (a : Int) := ⟨z.toNat, by omega⟩
                have han : a + 1 < n := by omega
                have hano : (a : Int) < n := by omega
                have hano1 : (a : Int) + 1 < n := by omega
                have hno0 : 0 < n := by omega
                obtain ⟨og, oof, rfl, hog, hoat⟩ := (HO1.out.plus (Plus.is x0)).rd.at_ (j := a) (by rw [← hno.out]; omega)
                have hog1 : og < W1.heap.size := by
                  obtain ⟨g2, o2, e, q, _⟩ := HO1.out.rd.at_ (j := a) (by rw [← hno.out]; omega)
                  injection e with e
                  injection e with e _ _
                  rw [e]
                  exact q
                haveI : Old og W1 := ⟨hog1⟩
                have hc1 := hoat a (by rw [← hno.out]; omega)
                have hc2 := hoat (a + 1) (by rw [← hno.out]; omega)
                have ha1 := add_addr og oof a
                have ha2 := add_addr og oof (a + 1)
                have hv1 := HORD.out.1.2.1 a (by omega)
                have hv2 := HORD.out.1.2.1 (a + 1) han
                obtain ⟨v1, hw1⟩ : ∃ y : Nat, os.getD a 0 = (y : Int) := ⟨(os.getD a 0).toNat, by omega⟩
                obtain ⟨v2, hw2⟩ : ∃ y : Nat, os.getD (a + 1) 0 = (y : Int) := ⟨(os.getD (a + 1) 0).toNat, by omega⟩
                rw [hw1] at hc1 hv1
                rw [hw2] at hc2 hv2
                have HV1 := Lib.hid hw1
                have HV2 := Lib.hid hw2
                clear hoat hw1 hw2
                obtain ⟨cc, hcc⟩ : ∃ v, befB l ps v1 v2 = v := ⟨_, rfl⟩
                have HCC := Lib.hid hcc
                have HQ := Lib.hid (has_p HR1.out hkk v1 v2 (by omega) (by omega) cc hcc)
                have hPk : Plus W1 (plus (plus W1 x0) z4) := (by repeat' (first | exact Plus.refl _ | refine Plus.alloc ?_ _ | refine Plus.plus ?_ _ | refine Plus.drew ?_ | refine Plus.drewN ?_ _))
                clear hcc
                cases cc
                · refine wp_region_plus (by kernel_rfl) (by kernel_rfl) ?_
                  repeat (go_big_quiet_step ((go_at_call 21; exact calls_plus (HQ.out _ (Plus.trans hPk (Plus.is _))))))
                  refine wpQuiet_nil ?_
                  intro _ hw'
                  obtain ⟨x7, rfl⟩ := hw'
                  go_wp2_with (first | (go_at_call 24; (with_reducible refine (copyI_n _ (HO1.out.plus (by repeat' (first | exact Plus.refl _ | refine Plus.alloc ?_ _ | refine Plus.plus ?_ _ | refine Plus.drew ?_ | refine Plus.drewN ?_ _))) hno0 (by omega)).mono ?_); rintro e xw ⟨g, cg, rfl, hgs, hgo, hgc, hgm, ⟨z5, rfl⟩⟩; have HGO2 := Lib.hid hgo; clear hgo))
                  have hP4 : Plus W1 (plus (plus (plus (plus W1 x0) z4) x7) z5) := (by repeat' (first | exact Plus.refl _ | refine Plus.alloc ?_ _ | refine Plus.plus ?_ _ | refine Plus.drew ?_ | refine Plus.drewN ?_ _))
                  have hg4 : W1.heap.size ≤ g := Nat.le_trans (show Plus W1 (plus (plus (plus W1 x0) z4) x7) from (by repeat' (first | exact Plus.refl _ | refine Plus.alloc ?_ _ | refine Plus.plus ?_ _ | refine Plus.drew ?_ | refine Plus.drewN ?_ _))).below.size hgs
                  have hO4 := HGO2.out
                  obtain ⟨W4, hW4⟩ : ∃ W4, plus (plus (plus (plus W1 x0) z4) x7) z5 = W4 := ⟨_, rfl⟩
                  first
                    | rw [hW4] at hP4 hO4 ⊢
                    | (simp only [plus_plus] at hW4 hP4 hO4 ⊢; rw [hW4] at hP4 hO4 ⊢)
                  clear hW4 hgs HGO2
                  have hd1 := hO4.cell (j := a) (by rw [← hno.out]; omega)
                  have hd2 := hO4.cell (j := a + 1) (by rw [← hno.out]; omega)
                  rw [HV1.out] at hd1
                  rw [HV2.out] at hd2
                  have hf1 := hO4.frozen a
                  have hf2 := hO4.frozen (a + 1)
                  have hlg := hO4.lt
                  have HS1 := Lib.hid ((hO4.set (j := a) (v := (v2 : Int)) (by rw [← hno.out]; omega)).set (j := a + 1) (v := (v1 : Int)) (by rw [List.length_set, ← hno.out]; omega))
                  have HS2 := Lib.hid ((hO4.set (j := a + 1) (v := (v1 : Int)) (by rw [← hno.out]; omega)).set (j := a) (v := (v2 : Int)) (by rw [List.length_set, ← hno.out]; omega))
                  have HPV1 := Lib.hid (show Plus W1 ((W4.setCell ⟨g, a, none⟩ (.int .i64 v2)).setCell ⟨g, a + 1, none⟩ (.int .i64 v1)) from Plus.of_below (((hP4.below).setCell (p := ⟨g, a, none⟩) hg4 _).setCell (p := ⟨g, a + 1, none⟩) hg4 _))
                  have HPV2 := Lib.hid (show Plus W1 ((W4.setCell ⟨g, a + 1, none⟩ (.int .i64 v1)).setCell ⟨g, a, none⟩ (.int .i64 v2)) from Plus.of_below (((hP4.below).setCell (p := ⟨g, a + 1, none⟩) hg4 _).setCell (p := ⟨g, a, none⟩) hg4 _))
                  have HOR2 := Lib.hid (swap_ord HORD.out han HV1.out HV2.out (by rw [Int.toNat_natCast, Int.toNat_natCast]; exact HCC.out))
                  have hcm : (os.set (a + 1) (v1 : Int)).set a (v2 : Int) = (os.set a (v2 : Int)).set (a + 1) (v1 : Int) := List.set_comm _ _ (by omega)
                  rw [hcm] at HS2
                  have HLN2 := Lib.hid (show n = ((os.set a (v2 : Int)).set (a + 1) (v1 : Int)).length by rw [List.length_set, List.length_set]; exact hno.out)
                  clear hO4 hcm
                  go_region
                  have hPV : Plus W1 ((W4.setCell ⟨g, a, none⟩ (.int .i64 v2)).setCell ⟨g, a + 1, none⟩ (.int .i64 v1)).drew := HPV1.out.drew
                  have hOV : Own .i64 ((W4.setCell ⟨g, a, none⟩ (.int .i64 v2)).setCell ⟨g, a + 1, none⟩ (.int .i64 v1)).drew g ((os.set a (v2 : Int)).set (a + 1) (v1 : Int)) := HS1.out
                  obtain ⟨V, hV⟩ : ∃ V, ((W4.setCell ⟨g, a, none⟩ (.int .i64 v2)).setCell ⟨g, a + 1, none⟩ (.int .i64 v1)).drew = V := ⟨_, rfl⟩
                  rw [hV] at hPV hOV ⊢
                  have HO2 : Hid (Ar .i64 V (some ⟨g, 0, none⟩) ((os.set a (v2 : Int)).set (a + 1) (v1 : Int)) n cg) := Lib.hid ⟨hOV.rd, HLN2.out, hgc, hgm⟩
                  have HLA2 := Lib.hid (HLA1.out.plus hPV)
                  have HLG2 := Lib.hid (HLG1.out.plus hPV)
                  have HZO2 : Hid (OrdR n (befB l ps) ((os.set a (v2 : Int)).set (a + 1) (v1 : Int)) (-1)) := Lib.hid (.inl ⟨HOR2.out, rfl⟩)
                  have cv0 := (HBX.out.plus hPV).c0
                  have cv1 := (HBX.out.plus hPV).c1
                  haveI : Old w.heap.size V := ⟨(HBX.out.plus hPV).lt⟩
                  clear hV hOV hd1 hd2 hf1 hf2 HS1 HS2 HPV1 HPV2
                  go_wp2_with (first | (go_at_call 23; (with_reducible refine (first_c _ (HLA2.out.plus (by repeat' (first | exact Plus.refl _ | refine Plus.alloc ?_ _ | refine Plus.plus ?_ _ | refine Plus.drew ?_ | refine Plus.drewN ?_ _)))).mono ?_); rintro e xw ⟨rfl, ⟨y9, rfl⟩⟩) | (go_at_call 29; (with_reducible refine (ordered_t _ (HLA2.out.plus (by repeat' (first | exact Plus.refl _ | refine Plus.alloc ?_ _ | refine Plus.plus ?_ _ | refine Plus.drew ?_ | refine Plus.drewN ?_ _))) (HLG2.out.plus (by repeat' (first | exact Plus.refl _ | refine Plus.alloc ?_ _ | refine Plus.plus ?_ _ | refine Plus.drew ?_ | refine Plus.drewN ?_ _))) HM0 HMM HK (HO2.out.plus (by repeat' (first | exact Plus.refl _ | refine Plus.alloc ?_ _ | refine Plus.plus ?_ _ | refine Plus.drew ?_ | refine Plus.drewN ?_ _))) HZO2).mono ?_); rintro e xw ⟨rfl, ⟨z6, rfl⟩⟩))
                  go_returns
                  exact ⟨rfl, hP1.trans (hPV.trans (by repeat' (first | exact Plus.refl _ | refine Plus.alloc ?_ _ | refine Plus.plus ?_ _ | refine Plus.drew ?_ | refine Plus.drewN ?_ _)))⟩
                · refine wp_region_plus (by kernel_rfl) (by kernel_rfl) ?_
                  repeat (go_big_quiet_step ((go_at_call 21; exact calls_plus (HQ.out _ (Plus.trans hPk (Plus.is _))))))
                  refine wpQuiet_nil ?_
                  intro _ hw'
                  obtain ⟨x7, rfl⟩ := hw'
                  go_wp2_with (first | (go_at_call 23; (with_reducible refine (first_c _ (HLA1.out.plus (by repeat' (first | exact Plus.refl _ | refine Plus.alloc ?_ _ | refine Plus.plus ?_ _ | refine Plus.drew ?_ | refine Plus.drewN ?_ _)))).mono ?_); rintro e xw ⟨rfl, ⟨y9, rfl⟩⟩))
                  go_returns
                  exact ⟨rfl, hP1.trans (by repeat' (first | exact Plus.refl _ | refine Plus.alloc ?_ _ | refine Plus.plus ?_ _ | refine Plus.drew ?_ | refine Plus.drewN ?_ _))⟩
    · go_returns
      exact ⟨rfl, (by repeat' (first | exact Plus.refl _ | refine Plus.alloc ?_ _ | refine Plus.plus ?_ _ | refine Plus.drew ?_ | refine Plus.drewN ?_ _))⟩
set_option maxRecDepth 100000 in
set_option maxHeartbeats 4000000 in
theorem orders_f {l : List Ev} {ps : List Pr} {A B : Option Addr} {n c m d : Nat} {O : Option Addr} {os : List Int} {no co : Nat} {z : Int} (w : World) (HLA : Hid (Lai w)) (HLG : Hid (Lg w l ps A n c B m d)) (HM0 : Hid (MayR l ps false)) (HOS : Hid (Ar .i64 w O os no co)) : Calls Tryd.prog 8 #[.agg #[.slice A n c, .slice B m d], .slice O no co, .int .i64 z] w fun e w' => e = .returned (.bool true) ∧ Plus w w' := by
  have hoc := HOS.out.cap
  have hom := HOS.out.max
  by_cases hno4 : (40 : Int) < no
  · go_enter Tryd.func8, Tryd.ntmps8
    go_wp2_with (first | (go_at_call 23; (with_reducible refine (first_c _ (HLA.out.plus (by repeat' (first | exact Plus.refl _ | refine Plus.alloc ?_ _ | refine Plus.plus ?_ _ | refine Plus.drew ?_ | refine Plus.drewN ?_ _)))).mono ?_); rintro e xw ⟨rfl, ⟨y0, rfl⟩⟩) | (go_at_call 11; (with_reducible refine (few40 _ (HLG.out.plus (by repeat' (first | exact Plus.refl _ | refine Plus.alloc ?_ _ | refine Plus.plus ?_ _ | refine Plus.drew ?_ | refine Plus.drewN ?_ _)))).mono ?_); rintro e xw ⟨bf, rfl, hbf, ⟨yf, rfl⟩⟩; have HBF := Lib.hid hbf; clear hbf) | (go_at_call 20; (with_reducible refine (may_s _ HM0 (HLG.out.plus (by repeat' (first | exact Plus.refl _ | refine Plus.alloc ?_ _ | refine Plus.plus ?_ _ | refine Plus.drew ?_ | refine Plus.drewN ?_ _)))).mono ?_); rintro e xw ⟨rfl, ⟨ym, rfl⟩⟩))
    all_goals go_returns
    all_goals exact ⟨rfl, (by repeat' (first | exact Plus.refl _ | refine Plus.alloc ?_ _ | refine Plus.plus ?_ _ | refine Plus.drew ?_ | refine Plus.drewN ?_ _))⟩
  · go_enter Tryd.func8, Tryd.ntmps8
    go_wp2_with (first | (go_at_call 23; (with_reducible refine (first_c _ (HLA.out.plus (by repeat' (first | exact Plus.refl _ | refine Plus.alloc ?_ _ | refine Plus.plus ?_ _ | refine Plus.drew ?_ | refine Plus.drewN ?_ _)))).mono ?_); rintro e xw ⟨rfl, ⟨y0, rfl⟩⟩) | (go_at_call 11; (with_reducible refine (few40 _ (HLG.out.plus (by repeat' (first | exact Plus.refl _ | refine Plus.alloc ?_ _ | refine Plus.plus ?_ _ | refine Plus.drew ?_ | refine Plus.drewN ?_ _)))).mono ?_); rintro e xw ⟨bf, rfl, hbf, ⟨yf, rfl⟩⟩; have HBF := Lib.hid hbf; clear hbf) | (go_at_call 20; (with_reducible refine (may_s _ HM0 (HLG.out.plus (by repeat' (first | exact Plus.refl _ | refine Plus.alloc ?_ _ | refine Plus.plus ?_ _ | refine Plus.drew ?_ | refine Plus.drewN ?_ _)))).mono ?_); rintro e xw ⟨rfl, ⟨ym, rfl⟩⟩))
    all_goals go_returns
    all_goals exact ⟨rfl, (by repeat' (first | exact Plus.refl _ | refine Plus.alloc ?_ _ | refine Plus.plus ?_ _ | refine Plus.drew ?_ | refine Plus.drewN ?_ _))⟩
theorem orders_w {l : List Ev} {ps : List Pr} {A B : Option Addr} {n c m d : Nat} {O : Option Addr} {os : List Int} {no co : Nat} (w : World) (hL : Lai w) (H : Lg w l ps A n c B m d) (HO : Ar .i64 w O os no co) (z : Int) (hz : I64 z) : Calls Tryd.prog 8 #[.agg #[.slice A n c, .slice B m d], .slice O no co, .int .i64 z] w fun e w' => e = .returned (.bool true) ∧ Plus w w' := by
  by_cases h : MayP l ps
  · exact orders_t (K := (n + 63) / 64) w (Lib.hid rfl) (Lib.hid hL) (Lib.hid H) (Lib.hid ⟨fun _ => rfl, fun _ => h⟩) (Lib.hid h) (Lib.hid HO) hz
  · exact orders_f w (Lib.hid hL) (Lib.hid H) (Lib.hid ⟨fun q => absurd q h, fun q => by cases q⟩) (Lib.hid HO)
end Go.Proofs.YtmfdlcicbiincaaDoor
