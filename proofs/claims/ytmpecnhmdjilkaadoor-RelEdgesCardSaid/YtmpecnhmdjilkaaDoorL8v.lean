/- Walk of RelEdges. -/
import Derived.WalkKit
import Derived.WalkSpells
import Derived.WalkLawsBesides
import Derived.Handy
import Derived.Deep.RegionHeld3
import Derived.Deep.DeepCutAuto
import Derived.Deep.QuietTactic
import Derived.BigQuiet
import Derived.Lib.Hide
import Derived.KernelRfl
import Derived.WalkMore
import Derived.Deep.LoopGhost
import Derived.IntWalk
import Derived.Deep.RegionLaw
import Derived.RangeFuncBox
import Derived.Test.YtmpecnhmdjilkaaDoorF1
import Derived.Test.YtmpecnhmdjilkaaDoorL8m
import Derived.Test.YtmpecnhmdjilkaaDoorL6v
namespace Go.Proofs.YtmpecnhmdjilkaaDoor
open Go.RowKit


/-- What is made of a log and of the one with a pair more. -/
def TwoE (W : World) (l : List Ev) (ps qs : List Pr) (n K : Nat) (s8 s9 : Value) (wx : World) : Prop := ∃ p1 p2 B1 B2 hs1 hs2, s8 = .pointer (some ⟨p1, 0, none⟩) ∧ s9 = .pointer (some ⟨p2, 0, none⟩) ∧ Rl wx B1 p1 n K (befB l ps) hs1 ∧ Rl wx B2 p2 n K (befB l qs) hs2 ∧ Plus W wx
set_option maxRecDepth 100000 in
set_option maxHeartbeats 16000000 in
theorem edges_t {l : List Ev} {ps : List Pr} {A B : Option Addr} {n c m d : Nat} {K a b : Nat} (w : World) (HK : Hid (K = (n + 63) / 64)) (HLA : Hid (Lai w)) (HLG : Hid (Lg w l ps A n c B m d)) (HM0 : Hid (MayR l ps true)) (HMM : Hid (MayP l ps)) (hab : a < b) (hbn : b < n) : Calls Tryd.prog 8 #[.agg #[.slice A n c, .slice B m d], .int .i64 (a : Nat), .int .i64 (b : Nat)] w fun e w' => e = .returned (.bool true) ∧ Plus w w' := by
  have HLN := Lib.hid HLG.out.len
  have hz1 : ¬ (a : Int) < 0 := by omega
  have hz2 : ¬ (b : Int) ≤ a := by omega
  have hz3 : ¬ (n : Int) ≤ b := by omega
  obtain ⟨j0, hj, hj0, hj1, hj2⟩ := info_parts infoPr
  go_enter Tryd.func8, Tryd.ntmps8
  go_wp2_with (first | (go_at_call 9; (with_reducible refine (first_c _ (HLA.out.plus (by repeat' (first | exact Plus.refl _ | refine Plus.alloc ?_ _ | refine Plus.plus ?_ _ | refine Plus.drew ?_ | refine Plus.drewN ?_ _)))).mono ?_); rintro e xw ⟨rfl, ⟨y0, rfl⟩⟩) | (go_at_call 10; (with_reducible refine (few_t _ (HLG.out.plus (by repeat' (first | exact Plus.refl _ | refine Plus.alloc ?_ _ | refine Plus.plus ?_ _ | refine Plus.drew ?_ | refine Plus.drewN ?_ _)))).mono ?_); rintro e xw ⟨bf, rfl, hbf, ⟨yf, rfl⟩⟩; have HBF := Lib.hid hbf; clear hbf) | (go_at_call 21; (with_reducible refine (may_s _ HM0 (HLG.out.plus (by repeat' (first | exact Plus.refl _ | refine Plus.alloc ?_ _ | refine Plus.plus ?_ _ | refine Plus.drew ?_ | refine Plus.drewN ?_ _)))).mono ?_); rintro e xw ⟨rfl, ⟨ym, rfl⟩⟩))
  · have hbf : bf = true := by cases bf <;> simp_all
    subst hbf
    obtain ⟨f1, f2, f3⟩ := HBF.out rfl
    have HSM := Lib.hid f3
    clear HBF f3
    go_upto_region 6 with (first | (go_at_call 24; (with_reducible refine (head_o _ (HLG.out.plus (by repeat' (first | exact Plus.refl _ | refine Plus.alloc ?_ _ | refine Plus.plus ?_ _ | refine Plus.drew ?_ | refine Plus.drewN ?_ _))) HSM.out HMM.out).mono ?_); rintro e xw ⟨V, cV, ys, V2, cV2, rfl, hyl, hO1, hO2, hO3, hO4, ⟨x2, rfl⟩⟩; have HYL := Lib.hid hyl; have HO1 := Lib.hid hO1; have HO2 := Lib.hid hO2; have HO3 := Lib.hid hO3; have HO4 := Lib.hid hO4; clear hyl hO1 hO2 hO3 hO4))
    obtain ⟨WC, hWC⟩ : ∃ WC, plus (plus (plus (w.alloc (.cells #[.slice A n c, .slice B m d] 25)) y0) yf) ym = WC := ⟨_, rfl⟩
    have hPC : Plus (w.alloc (.cells #[.slice A n c, .slice B m d] 25)) WC := by rw [← hWC]; exact (by repeat' (first | exact Plus.refl _ | refine Plus.alloc ?_ _ | refine Plus.plus ?_ _ | refine Plus.drew ?_ | refine Plus.drewN ?_ _))
    have hsC : WC.heap.size = w.heap.size + 1 + y0.blocks.length + yf.blocks.length + ym.blocks.length := by rw [← hWC]; simp [go_sem]
    rw [hWC] at HO1 HO2 HO3 ⊢
    clear hWC
    rw [← hsC]
    obtain ⟨BB, hBB⟩ : ∃ BB, WC.heap.size = BB := ⟨_, rfl⟩
    have hBl : w.heap.size + 1 ≤ BB := by omega
    clear hsC
    rw [hBB] at HO1 HO2 HO3 ⊢
    go_wp2_with (at_builtin; refine wpList_append_own _ rfl _ _ 23 rfl BB 40 j0 (.agg #[.int .i64 0, .int .i64 0]) 2 16 Tryd.underlying23 hj hj0 hj1 hj2 rfl (by decide) _ _ _ rfl (own_plus HO3.out (Plus.alloc (Plus.alloc (Plus.refl _) _) _)) _ 1 1 (prL ((a : Int), (b : Int))) rfl rfl (news_at' _ _ _ _ (by simp [go_sem, hBB])) (one_pr _) (by unfold maxLen; omega) (by omega) (by simp [go_sem]; omega) ?_; intro v3 w1 hown1 hgr1 _; obtain ⟨V3, cv3, rfl⟩ := own_form hown1; have HW2 := Lib.hid hown1; have HG2 := Lib.hid hgr1; clear hown1 hgr1; have hB4 := Bx.grown ((bx_new' (plus WC x2) (.slice V n cV) (.slice V2 m cV2) (b := BB + x2.blocks.length) (by simp [go_sem, hBB])).plus (Plus.alloc (Plus.refl _) _)) HG2.out (own_ty (own_plus HO3.out (Plus.alloc (Plus.alloc (Plus.refl _) _) _))) (by decide); have hc4 : w1.cell? ⟨BB + x2.blocks.length, 1, none⟩ = some (.slice V2 m cV2) := hB4.c1; have hf4 : w1.frozen? ⟨BB + x2.blocks.length, 1, none⟩ = false := hB4.frozen 1; have HB4 := Lib.hid hB4; clear hB4)
    obtain ⟨W, hW⟩ : ∃ W, w1.setCell ⟨BB + x2.blocks.length, 1, none⟩ (.slice V3 (m + 1) cv3) = W := ⟨_, rfl⟩
    have hG0 : Plus WC (plus WC x2) := Plus.is x2
    have hBW : Below BB WC w1 := by
      have q : Below BB WC (((plus WC x2).alloc (.cells #[.slice V n cV, .slice V2 m cV2] 25)).alloc (.cells #[.int .i64 a, .int .i64 b] 40)) := by
        have q := Plus.below (show Plus WC (((plus WC x2).alloc (.cells #[.slice V n cV, .slice V2 m cV2] 25)).alloc (.cells #[.int .i64 a, .int .i64 b] 40)) from (by repeat' (first | exact Plus.refl _ | refine Plus.alloc ?_ _ | refine Plus.plus ?_ _ | refine Plus.drew ?_ | refine Plus.drewN ?_ _)))
        rw [hBB] at q
        exact q
      exact q.grown HG2.out (by simp [go_sem, hBB]; omega) (fun j hj => own_ge HO3.out j hj)
    have hPW : Plus WC W := by
      rw [← hW]
      exact Plus.of_below (by rw [hBB]; exact Below.set hBW (by omega))
    have hb7 : Bx W (BB + x2.blocks.length) (.slice V n cV) (.slice V3 (m + 1) cv3) := by rw [← hW]; exact HB4.out.set1 _
    have hLg2 : Lg W l (ps ++ [((a : Int), (b : Int))]) V n cV V3 (m + 1) cv3 := by
      have hal : Plus (plus WC x2) (((plus WC x2).alloc (.cells #[.slice V n cV, .slice V2 m cV2] 25)).alloc (.cells #[.int .i64 a, .int .i64 b] 40)) := (by repeat' (first | exact Plus.refl _ | refine Plus.alloc ?_ _ | refine Plus.plus ?_ _ | refine Plus.drew ?_ | refine Plus.drewN ?_ _))
      have o1 := own_set (own_grown (own_plus HO1.out hal) HG2.out (own_ty (own_plus HO3.out (Plus.alloc (Plus.alloc (Plus.refl _) _) _))) (by decide)) (i := 1) (u := .slice V3 (m + 1) cv3) HB4.out (by decide)
      have o2 : ∀ y ∈ ys, ERM W y := fun y hy => by
        rw [← hW]
        exact (OwnE.set (OwnE.grown ((HO2.out y hy).plus hal) HG2.out (own_ty (own_plus HO3.out (Plus.alloc (Plus.alloc (Plus.refl _) _) _))) (by decide) (by decide)) (i := 1) (u := .slice V3 (m + 1) cv3) HB4.out (by decide) (by decide)).erm
      have o3 := own_set HW2.out (i := 1) (u := .slice V3 (m + 1) cv3) HB4.out (by decide)
      rw [hW] at o1 o3
      have hyn := HYL.out
      refine ⟨⟨ys, HO4.out, ?_⟩, ?_⟩
      · subst hyn
        exact es_of_own o1 o2
      · have q : (ps ++ [((a : Int), (b : Int))]).length = m + 1 := by rw [List.length_append, HLN.out.2]; rfl
        have o4 : W.ownsRow BB 40 2 (.slice V3 (m + 1) cv3) (m + 1) (rowP (ps ++ [((a : Int), (b : Int))])) := by rw [rowP_snoc]; exact o3
        rw [← q] at o4 ⊢
        exact pa_of_own o4
    rw [hW]
    clear hW
    have hPw : Plus w W := (Plus.alloc (Plus.refl _) _).trans (hPC.trans hPW)
    have hb3 := (bx_new w (.slice A n c) (.slice B m d)).plus (hPC.trans hPW)
    obtain ⟨ZZ, hZZ⟩ : ∃ ZZ, BB + x2.blocks.length = ZZ := ⟨_, rfl⟩
    obtain ⟨M1, hM1⟩ : ∃ M1, m + 1 = M1 := ⟨_, rfl⟩
    rw [hM1] at hb7 hLg2
    rw [hZZ] at hb7
    rw [hZZ]
    have HL2 := Lib.hid hLg2
    have HPW := Lib.hid hPw
    have HM2 := Lib.hid (may_more HMM.out hab (show b < l.length by rw [← HLN.out.1]; exact hbn) (show ps.length ≤ 60 by rw [← HLN.out.2]; omega))
    have hd0 := hb3.c0
    have hd1 := hb3.c1
    have he0 := hb7.c0
    have he1 := hb7.c1
    have hb3l := hb3.lt
    have hb7l := hb7.lt
    haveI : Old w.heap.size W := ⟨hb3l⟩
    haveI : Old ZZ W := ⟨hb7l⟩
    have HB3 := Lib.hid hb3
    clear hLg2 hPw hb3 hb7 hPW hBW hG0 HW2 HG2 hc4 hf4 HB4 HO1 HO2 HO3 HO4 HYL hPC hM1 hZZ
    go_cut [8, 9] (fun s8 s9 wx => TwoE W l ps (ps ++ [((a : Int), (b : Int))]) n K s8 s9 wx)
    case first =>
      go_region_held3 (fun w' => (w'.cell? ⟨w.heap.size, 0, none⟩ = some (.slice A n c) ∧ w'.cell? ⟨w.heap.size, 1, none⟩ = some (.slice B m d)) ∧ w'.cell? ⟨ZZ, 0, none⟩ = some (.slice V n cV) ∧ w'.cell? ⟨ZZ, 1, none⟩ = some (.slice V3 M1 cv3)) (refine ⟨⟨?_, ?_⟩, ?_, ?_⟩ <;> first | assumption | simp [go_sem, hd0, hd1, he0, he1]) (first | (go_at_call 17; (with_reducible refine (before_m _ (HLA.out.plus (HPW.out.trans (by repeat' (first | exact Plus.refl _ | refine Plus.alloc ?_ _ | refine Plus.plus ?_ _ | refine Plus.drew ?_ | refine Plus.drewN ?_ _)))) (HLG.out.plus (HPW.out.trans (by repeat' (first | exact Plus.refl _ | refine Plus.alloc ?_ _ | refine Plus.plus ?_ _ | refine Plus.drew ?_ | refine Plus.drewN ?_ _)))) HMM HK).mono ?_); rintro e xw ⟨p1, hs1, rfl, hR1, ⟨x1, rfl⟩⟩; have HR1 := Lib.hid hR1; clear hR1) | (go_at_call 17; (with_reducible refine (before_m _ (HLA.out.plus (HPW.out.trans (by repeat' (first | exact Plus.refl _ | refine Plus.alloc ?_ _ | refine Plus.plus ?_ _ | refine Plus.drew ?_ | refine Plus.drewN ?_ _)))) (HL2.out.plus (by repeat' (first | exact Plus.refl _ | refine Plus.alloc ?_ _ | refine Plus.plus ?_ _ | refine Plus.drew ?_ | refine Plus.drewN ?_ _))) HM2 HK).mono ?_); rintro e xw ⟨p2, hs2, rfl, hR2, ⟨x2, rfl⟩⟩; have HR2 := Lib.hid hR2; clear hR2))
      all_goals go_wp2_with fail
      all_goals go_meet
      all_goals exact ⟨p1, p2, _, _, hs1, hs2, rfl, rfl, HR1.out.plus (by repeat' (first | exact Plus.refl _ | refine Plus.alloc ?_ _ | refine Plus.plus ?_ _ | refine Plus.drew ?_ | refine Plus.drewN ?_ _)), HR2.out.plus (by repeat' (first | exact Plus.refl _ | refine Plus.alloc ?_ _ | refine Plus.plus ?_ _ | refine Plus.drew ?_ | refine Plus.drewN ?_ _)), (by repeat' (first | exact Plus.refl _ | refine Plus.alloc ?_ _ | refine Plus.plus ?_ _ | refine Plus.drew ?_ | refine Plus.drewN ?_ _))⟩
    case rest =>
      obtain ⟨p1, p2, B1, B2, hs1, hs2, rfl, rfl, hR1, hR2, ⟨x9, rfl⟩⟩ := hcut
      clear hd0 hd1 he0 he1
      have hc3 := HB3.out.plus (Plus.is x9)
      have c0 := hc3.c0
      have c1 := hc3.c1
      have hbl := hc3.lt
      haveI : Old w.heap.size (plus W x9) := ⟨hbl⟩
      have hkk : n ≤ 64 * K ∧ K ≤ 1000 := by rw [HK.out]; omega
      have QH : ∀ (x y : Nat), x < n → y < n → ∀ r, befB l ps x y = r → ∀ w', Plus (plus W x9) w' → Calls Tryd.prog 23 #[.pointer (some ⟨p1, 0, none⟩), .int .i64 x, .int .i64 y] w' fun e w2 => e = .returned (.bool r) ∧ Plus w' w2 := fun x y hx hy r hr w' hp => (has_t w' (hR1.plus hp) hkk.1 (by omega) hx hy hr).mono fun e w2 ⟨h1, h2⟩ => ⟨h1, by rw [h2]; exact Plus.refl _⟩
      have QK : ∀ (x y : Nat), x < n → y < n → ∀ r, befB l (ps ++ [((a : Int), (b : Int))]) x y = r → ∀ w', Plus (plus W x9) w' → Calls Tryd.prog 23 #[.pointer (some ⟨p2, 0, none⟩), .int .i64 x, .int .i64 y] w' fun e w2 => e = .returned (.bool r) ∧ Plus w' w2 := fun x y hx hy r hr w' hp => (has_t w' (hR2.plus hp) hkk.1 (by omega) hx hy hr).mono fun e w2 ⟨h1, h2⟩ => ⟨h1, by rw [h2]; exact Plus.refl _⟩
      have HQH := Lib.hid QH
      have HQK := Lib.hid QK
      clear QH QK hR1 hR2 hc3
      have han : a < n := by omega
      have Q0 := HQK.out a b han hbn true (by rw [bef_more]; unfold wayB; simp)
      go_wp2_with (go_at_call 23; (with_reducible refine (Q0 _ (by repeat' (first | exact Plus.refl _ | refine Plus.alloc ?_ _ | refine Plus.plus ?_ _ | refine Plus.drew ?_ | refine Plus.drewN ?_ _))).mono ?_); rintro e xw ⟨rfl, ⟨y1, rfl⟩⟩)
      clear Q0
      go_loopw [10] (fun s10 wr => ∃ x : Nat, s10 = .int .i64 x ∧ x ≤ n ∧ Plus (plus W x9) wr) (fun s10 _ => ((n : Int) - intOf s10).toNat)
      case atStart => exact ⟨0, rfl, Nat.zero_le _, (by repeat' (first | exact Plus.refl _ | refine Plus.alloc ?_ _ | refine Plus.plus ?_ _ | refine Plus.drew ?_ | refine Plus.drewN ?_ _))⟩
      case round =>
        obtain ⟨x, rfl, hx, ⟨xa, rfl⟩⟩ := hrel
        by_cases hlt : x < n
        · go_wp2_with fail
          go_loopw [11] (fun s11 wr => ∃ y : Nat, s11 = .int .i64 y ∧ y ≤ n ∧ Plus (plus W x9) wr) (fun s11 _ => ((n : Int) - intOf s11).toNat)
          case atStart => exact ⟨0, rfl, Nat.zero_le _, Plus.is xa⟩
          case round =>
            obtain ⟨y, rfl, hy, ⟨xb, rfl⟩⟩ := hrel
            by_cases hly : y < n
            · have hlt' : (x : Int) < n := by omega
              have hly' : (y : Int) < n := by omega
              go_upto_region 16 with fail
              go_cut [12] (fun s12 wx => ∃ st, s12 = .bool st ∧ wayB l ps a b x y = st ∧ Plus (plus W x9) wx)
              case first =>
                obtain ⟨r1, hr1⟩ : ∃ r, befB l ps x a = r := ⟨_, rfl⟩
                obtain ⟨r2, hr2⟩ : ∃ r, befB l ps b y = r := ⟨_, rfl⟩
                have Q1 := Lib.hid (HQH.out x a hlt han r1 hr1)
                have Q2 := Lib.hid (HQH.out b y hbn hly r2 hr2)
                have hway : wayB l ps a b x y = ((decide (x = a) || r1) && (decide (y = b) || r2)) := by unfold wayB; rw [hr1, hr2]
                have HW := Lib.hid hway
                clear hway hr1 hr2
                by_cases hxa : x = a <;> by_cases hyb : y = b
                · subst hxa hyb
                  (go_wp2_with (first | (go_at_call 23; (with_reducible refine (Q1.out _ (by repeat' (first | exact Plus.refl _ | refine Plus.alloc ?_ _ | refine Plus.plus ?_ _ | refine Plus.drew ?_ | refine Plus.drewN ?_ _))).mono ?_); rintro e xw ⟨rfl, ⟨y1, rfl⟩⟩) | (go_at_call 23; (with_reducible refine (Q2.out _ (by repeat' (first | exact Plus.refl _ | refine Plus.alloc ?_ _ | refine Plus.plus ?_ _ | refine Plus.drew ?_ | refine Plus.drewN ?_ _))).mono ?_); rintro e xw ⟨rfl, ⟨y2, rfl⟩⟩)))
                  go_meet
                  exact ⟨true, rfl, by rw [HW.out]; simp, (by repeat' (first | exact Plus.refl _ | refine Plus.alloc ?_ _ | refine Plus.plus ?_ _ | refine Plus.drew ?_ | refine Plus.drewN ?_ _))⟩
                · subst hxa
                  have hyb' : ((y : Int) == b) = false := by simp; omega
                  have HY := Lib.hid hyb
                  clear hyb
                  cases r2
                  all_goals (go_wp2_with (first | (go_at_call 23; (with_reducible refine (Q1.out _ (by repeat' (first | exact Plus.refl _ | refine Plus.alloc ?_ _ | refine Plus.plus ?_ _ | refine Plus.drew ?_ | refine Plus.drewN ?_ _))).mono ?_); rintro e xw ⟨rfl, ⟨y1, rfl⟩⟩) | (go_at_call 23; (with_reducible refine (Q2.out _ (by repeat' (first | exact Plus.refl _ | refine Plus.alloc ?_ _ | refine Plus.plus ?_ _ | refine Plus.drew ?_ | refine Plus.drewN ?_ _))).mono ?_); rintro e xw ⟨rfl, ⟨y2, rfl⟩⟩)))
                  all_goals go_meet
                  all_goals exact ⟨_, rfl, by rw [HW.out]; simp [HY.out], (by repeat' (first | exact Plus.refl _ | refine Plus.alloc ?_ _ | refine Plus.plus ?_ _ | refine Plus.drew ?_ | refine Plus.drewN ?_ _))⟩
                · subst hyb
                  have hxa' : ((x : Int) == a) = false := by simp; omega
                  have HX := Lib.hid hxa
                  clear hxa
                  cases r1
                  all_goals (go_wp2_with (first | (go_at_call 23; (with_reducible refine (Q1.out _ (by repeat' (first | exact Plus.refl _ | refine Plus.alloc ?_ _ | refine Plus.plus ?_ _ | refine Plus.drew ?_ | refine Plus.drewN ?_ _))).mono ?_); rintro e xw ⟨rfl, ⟨y1, rfl⟩⟩) | (go_at_call 23; (with_reducible refine (Q2.out _ (by repeat' (first | exact Plus.refl _ | refine Plus.alloc ?_ _ | refine Plus.plus ?_ _ | refine Plus.drew ?_ | refine Plus.drewN ?_ _))).mono ?_); rintro e xw ⟨rfl, ⟨y2, rfl⟩⟩)))
                  all_goals go_meet
                  all_goals exact ⟨_, rfl, by rw [HW.out]; simp [HX.out], (by repeat' (first | exact Plus.refl _ | refine Plus.alloc ?_ _ | refine Plus.plus ?_ _ | refine Plus.drew ?_ | refine Plus.drewN ?_ _))⟩
                · have hxa' : ((x : Int) == a) = false := by simp; omega
                  have hyb' : ((y : Int) == b) = false := by simp; omega
                  have HX := Lib.hid hxa
                  have HY := Lib.hid hyb
                  clear hxa hyb
                  cases r1 <;> cases r2
                  all_goals (go_wp2_with (first | (go_at_call 23; (with_reducible refine (Q1.out _ (by repeat' (first | exact Plus.refl _ | refine Plus.alloc ?_ _ | refine Plus.plus ?_ _ | refine Plus.drew ?_ | refine Plus.drewN ?_ _))).mono ?_); rintro e xw ⟨rfl, ⟨y1, rfl⟩⟩) | (go_at_call 23; (with_reducible refine (Q2.out _ (by repeat' (first | exact Plus.refl _ | refine Plus.alloc ?_ _ | refine Plus.plus ?_ _ | refine Plus.drew ?_ | refine Plus.drewN ?_ _))).mono ?_); rintro e xw ⟨rfl, ⟨y2, rfl⟩⟩)))
                  all_goals go_meet
                  all_goals exact ⟨_, rfl, by rw [HW.out]; simp [HX.out, HY.out], (by repeat' (first | exact Plus.refl _ | refine Plus.alloc ?_ _ | refine Plus.plus ?_ _ | refine Plus.drew ?_ | refine Plus.drewN ?_ _))⟩
              case rest =>
                obtain ⟨st, rfl, hst, ⟨xc, rfl⟩⟩ := hcut
                obtain ⟨r1, hr1⟩ : ∃ r, befB l ps x y = r := ⟨_, rfl⟩
                obtain ⟨r2, hr2⟩ : ∃ r, befB l (ps ++ [((a : Int), (b : Int))]) x y = r := ⟨_, rfl⟩
                have Q1 := HQH.out x y hlt hly r1 hr1
                have Q2 := HQK.out x y hlt hly r2 hr2
                have hrt : r2 = (r1 || st) := by rw [← hr2, bef_more, hr1, hst]
                clear hr1 hr2 hst
                cases r1 <;> cases r2 <;> cases st
                all_goals try (exact absurd hrt (by decide))
                all_goals clear hrt
                all_goals go_wp2_with (first | (go_at_call 23; (with_reducible refine (Q1 _ (by repeat' (first | exact Plus.refl _ | refine Plus.alloc ?_ _ | refine Plus.plus ?_ _ | refine Plus.drew ?_ | refine Plus.drewN ?_ _))).mono ?_); rintro e xw ⟨rfl, ⟨y1, rfl⟩⟩) | (go_at_call 23; (with_reducible refine (Q2 _ (by repeat' (first | exact Plus.refl _ | refine Plus.alloc ?_ _ | refine Plus.plus ?_ _ | refine Plus.drew ?_ | refine Plus.drewN ?_ _))).mono ?_); rintro e xw ⟨rfl, ⟨y2, rfl⟩⟩))
                all_goals go_roundw
                all_goals first
                  | exact ⟨y + 1, int_eq (by omega), by omega, (by repeat' (first | exact Plus.refl _ | refine Plus.alloc ?_ _ | refine Plus.plus ?_ _ | refine Plus.drew ?_ | refine Plus.drewN ?_ _))⟩
                  | (simp [intOf]; omega)
            · obtain rfl : y = n := by omega
              go_wp2_with fail
              go_roundw
              case rel => exact ⟨x + 1, int_eq (by omega), by omega, (by repeat' (first | exact Plus.refl _ | refine Plus.alloc ?_ _ | refine Plus.plus ?_ _ | refine Plus.drew ?_ | refine Plus.drewN ?_ _))⟩
              case measure => simp [intOf]; omega
        · obtain rfl : x = n := by omega
          go_wp2_with (go_at_call 9; (with_reducible refine (first_c _ (HLA.out.plus (HPW.out.trans ((Plus.is x9).trans (Plus.is xa))))).mono ?_); rintro e xw ⟨rfl, ⟨y9, rfl⟩⟩)
          go_returns
          exact ⟨ret_bool (by simp), HPW.out.trans (by repeat' (first | exact Plus.refl _ | refine Plus.alloc ?_ _ | refine Plus.plus ?_ _ | refine Plus.drew ?_ | refine Plus.drewN ?_ _))⟩
  · go_returns
    exact ⟨rfl, (by repeat' (first | exact Plus.refl _ | refine Plus.alloc ?_ _ | refine Plus.plus ?_ _ | refine Plus.drew ?_ | refine Plus.drewN ?_ _))⟩
set_option maxRecDepth 100000 in
set_option maxHeartbeats 4000000 in
theorem edges_f {l : List Ev} {ps : List Pr} {A B : Option Addr} {n c m d : Nat} {a b : Int} {bm : Bool} (w : World) (HLA : Hid (Lai w)) (HLG : Hid (Lg w l ps A n c B m d)) (HM0 : Hid (MayR l ps bm)) (hno : bm = false ∨ a < 0 ∨ b ≤ a ∨ (n : Int) ≤ b) : Calls Tryd.prog 8 #[.agg #[.slice A n c, .slice B m d], .int .i64 a, .int .i64 b] w fun e w' => e = .returned (.bool true) ∧ Plus w w' := by
  go_enter Tryd.func8, Tryd.ntmps8
  cases bm
  · clear hno
    go_wp2_with (first | (go_at_call 9; (with_reducible refine (first_c _ (HLA.out.plus (by repeat' (first | exact Plus.refl _ | refine Plus.alloc ?_ _ | refine Plus.plus ?_ _ | refine Plus.drew ?_ | refine Plus.drewN ?_ _)))).mono ?_); rintro e xw ⟨rfl, ⟨y0, rfl⟩⟩) | (go_at_call 10; (with_reducible refine (few_t _ (HLG.out.plus (by repeat' (first | exact Plus.refl _ | refine Plus.alloc ?_ _ | refine Plus.plus ?_ _ | refine Plus.drew ?_ | refine Plus.drewN ?_ _)))).mono ?_); rintro e xw ⟨bf, rfl, hbf, ⟨yf, rfl⟩⟩; have HBF := Lib.hid hbf; clear hbf) | (go_at_call 21; (with_reducible refine (may_s _ HM0 (HLG.out.plus (by repeat' (first | exact Plus.refl _ | refine Plus.alloc ?_ _ | refine Plus.plus ?_ _ | refine Plus.drew ?_ | refine Plus.drewN ?_ _)))).mono ?_); rintro e xw ⟨rfl, ⟨ym, rfl⟩⟩))
    all_goals go_returns
    all_goals exact ⟨rfl, (by repeat' (first | exact Plus.refl _ | refine Plus.alloc ?_ _ | refine Plus.plus ?_ _ | refine Plus.drew ?_ | refine Plus.drewN ?_ _))⟩
  · by_cases q1 : a < 0
    · clear hno
      go_wp2_with (first | (go_at_call 9; (with_reducible refine (first_c _ (HLA.out.plus (by repeat' (first | exact Plus.refl _ | refine Plus.alloc ?_ _ | refine Plus.plus ?_ _ | refine Plus.drew ?_ | refine Plus.drewN ?_ _)))).mono ?_); rintro e xw ⟨rfl, ⟨y0, rfl⟩⟩) | (go_at_call 10; (with_reducible refine (few_t _ (HLG.out.plus (by repeat' (first | exact Plus.refl _ | refine Plus.alloc ?_ _ | refine Plus.plus ?_ _ | refine Plus.drew ?_ | refine Plus.drewN ?_ _)))).mono ?_); rintro e xw ⟨bf, rfl, hbf, ⟨yf, rfl⟩⟩; have HBF := Lib.hid hbf; clear hbf) | (go_at_call 21; (with_reducible refine (may_s _ HM0 (HLG.out.plus (by repeat' (first | exact Plus.refl _ | refine Plus.alloc ?_ _ | refine Plus.plus ?_ _ | refine Plus.drew ?_ | refine Plus.drewN ?_ _)))).mono ?_); rintro e xw ⟨rfl, ⟨ym, rfl⟩⟩))
      all_goals go_returns
      all_goals exact ⟨rfl, (by repeat' (first | exact Plus.refl _ | refine Plus.alloc ?_ _ | refine Plus.plus ?_ _ | refine Plus.drew ?_ | refine Plus.drewN ?_ _))⟩
    · by_cases q2 : b ≤ a
      · clear hno
        go_wp2_with (first | (go_at_call 9; (with_reducible refine (first_c _ (HLA.out.plus (by repeat' (first | exact Plus.refl _ | refine Plus.alloc ?_ _ | refine Plus.plus ?_ _ | refine Plus.drew ?_ | refine Plus.drewN ?_ _)))).mono ?_); rintro e xw ⟨rfl, ⟨y0, rfl⟩⟩) | (go_at_call 10; (with_reducible refine (few_t _ (HLG.out.plus (by repeat' (first | exact Plus.refl _ | refine Plus.alloc ?_ _ | refine Plus.plus ?_ _ | refine Plus.drew ?_ | refine Plus.drewN ?_ _)))).mono ?_); rintro e xw ⟨bf, rfl, hbf, ⟨yf, rfl⟩⟩; have HBF := Lib.hid hbf; clear hbf) | (go_at_call 21; (with_reducible refine (may_s _ HM0 (HLG.out.plus (by repeat' (first | exact Plus.refl _ | refine Plus.alloc ?_ _ | refine Plus.plus ?_ _ | refine Plus.drew ?_ | refine Plus.drewN ?_ _)))).mono ?_); rintro e xw ⟨rfl, ⟨ym, rfl⟩⟩))
        all_goals go_returns
        all_goals exact ⟨rfl, (by repeat' (first | exact Plus.refl _ | refine Plus.alloc ?_ _ | refine Plus.plus ?_ _ | refine Plus.drew ?_ | refine Plus.drewN ?_ _))⟩
      · have q3 : (n : Int) ≤ b := by
          rcases hno with q | q | q | q
          · cases q
          · exact absurd q q1
          · exact absurd q q2
          · exact q
        clear hno
        go_wp2_with (first | (go_at_call 9; (with_reducible refine (first_c _ (HLA.out.plus (by repeat' (first | exact Plus.refl _ | refine Plus.alloc ?_ _ | refine Plus.plus ?_ _ | refine Plus.drew ?_ | refine Plus.drewN ?_ _)))).mono ?_); rintro e xw ⟨rfl, ⟨y0, rfl⟩⟩) | (go_at_call 10; (with_reducible refine (few_t _ (HLG.out.plus (by repeat' (first | exact Plus.refl _ | refine Plus.alloc ?_ _ | refine Plus.plus ?_ _ | refine Plus.drew ?_ | refine Plus.drewN ?_ _)))).mono ?_); rintro e xw ⟨bf, rfl, hbf, ⟨yf, rfl⟩⟩; have HBF := Lib.hid hbf; clear hbf) | (go_at_call 21; (with_reducible refine (may_s _ HM0 (HLG.out.plus (by repeat' (first | exact Plus.refl _ | refine Plus.alloc ?_ _ | refine Plus.plus ?_ _ | refine Plus.drew ?_ | refine Plus.drewN ?_ _)))).mono ?_); rintro e xw ⟨rfl, ⟨ym, rfl⟩⟩))
        all_goals go_returns
        all_goals exact ⟨rfl, (by repeat' (first | exact Plus.refl _ | refine Plus.alloc ?_ _ | refine Plus.plus ?_ _ | refine Plus.drew ?_ | refine Plus.drewN ?_ _))⟩
theorem edges_w {l : List Ev} {ps : List Pr} {A B : Option Addr} {n c m d : Nat} (w : World) (hL : Lai w) (H : Lg w l ps A n c B m d) (a b : Int) : Calls Tryd.prog 8 #[.agg #[.slice A n c, .slice B m d], .int .i64 a, .int .i64 b] w fun e w' => e = .returned (.bool true) ∧ Plus w w' := by
  by_cases h : MayP l ps
  · have HM : Hid (MayR l ps true) := Lib.hid ⟨fun _ => rfl, fun _ => h⟩
    by_cases q1 : a < 0
    · exact edges_f w (Lib.hid hL) (Lib.hid H) HM (.inr (.inl q1))
    · by_cases q2 : b ≤ a
      · exact edges_f w (Lib.hid hL) (Lib.hid H) HM (.inr (.inr (.inl q2)))
      · by_cases q3 : (n : Int) ≤ b
        · exact edges_f w (Lib.hid hL) (Lib.hid H) HM (.inr (.inr (.inr q3)))
        · obtain ⟨a', rfl⟩ := Int.eq_ofNat_of_zero_le (show 0 ≤ a by omega)
          obtain ⟨b', rfl⟩ := Int.eq_ofNat_of_zero_le (show 0 ≤ b by omega)
          exact edges_t (K := (n + 63) / 64) w (Lib.hid rfl) (Lib.hid hL) (Lib.hid H) HM (Lib.hid h) (by omega) (by omega)
  · exact edges_f (bm := false) w (Lib.hid hL) (Lib.hid H) (Lib.hid ⟨fun q => absurd q h, fun q => by cases q⟩) (.inl rfl)
end Go.Proofs.YtmpecnhmdjilkaaDoor
