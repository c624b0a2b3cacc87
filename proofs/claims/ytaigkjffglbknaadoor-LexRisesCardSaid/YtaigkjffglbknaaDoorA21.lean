/- Contract: Tokens. -/
import Derived.Test.YtaigkjffglbknaaDoorA20
namespace Go.Proofs.YtaigkjffglbknaaDoor
open Go.RowKit


theorem trC_end (a : Nat) (nl : Bool) : trC ⟨{ tk0 with a := a, nl := nl }, none, 0, none, 0⟩ = [.int .i64 0, .string ⟨#[]⟩, .slice none 0 0, .int .i64 0, .int .i64 0, .bool false, .slice none 0 0, .int .i64 a, .bool nl] := by
  unfold trC tk0
  simp only [dig0]
  rfl
theorem red_c (g o : Nat) (xs : List Nat) (n c a : Nat) (w : World) (h : Ar .u16 65536 w (some ⟨g, o, none⟩) xs n c) (ha : a < n) (hn : n ≤ 140737488355) (hL : Lai w) :
    Calls Tryd.prog 32 #[.slice (some ⟨g, o, none⟩) n c, .int .i64 a] w (RetTok (redM (xs.drop a) (decide (a = 0))) w) := by
  by_cases a0 : a = 0
  · subst a0
    exact redZ_c g o xs n c w h ha hn hL
  · exact redA_c g o xs n c a w h ha a0 hn hL
set_option maxRecDepth 100000 in
set_option maxHeartbeats 16000000 in
theorem tok_h (A : Option Addr) (xs : List Nat) (c : Nat) (w : World) (h : Ar .u16 65536 w A xs xs.length c) (hl : xs.length ≤ 4096) (hL : Lai w) :
    Calls Tryd.prog 18 #[.slice A xs.length c] w (RetToks (runM xs 0 false [] xs.length) w) := by
  have H := Lib.hid h
  have HL := Lib.hid hL
  have hcap := h.cap
  have hmax := h.max
  obtain ⟨i0, hi, hz0, hz1, hz2⟩ := info_parts infoTok
  have d0 : decide ((4096 : Int) < (xs.length : Int)) = false := by simp; omega
  clear h hL
  go_enter Tryd.func18, Tryd.ntmps18
  go_wp2
  go_step3
  go_wp2
  go_step3
  go_wp2
  go_loopw [5, 6, 7] (fun s5 s6 s7 wr => TkRel xs w s5 s6 s7 wr) (fun _ s6 _ _ => ((xs.length : Int) - intOf s6).toNat)
  case atStart =>
    have st := World.ownsRow_made (base := w.heap.size) (e := 36) (size := 9) w #[] 0 (Nat.le_refl _) (by decide) rfl
    exact ⟨0, xs.length, false, [], rfl, rfl, st, fun r hr => by simp at hr, rfl, by omega, by omega, by simp, (Below.refl _ _).alloc (Nat.le_refl _) _⟩
  case round =>
    obtain ⟨a, f, nl, rs, rfl, rfl, hown, hrm, he, hf, hax, hra, hB⟩ := hrel
    obtain ⟨x0, rfl⟩ := Plus.of_below hB
    have HW := Lib.hid hown
    have HE := Lib.hid he
    have HRM := Lib.hid hrm
    have HB := Lib.hid hB
    clear hown he hrm hB
    by_cases hlt : a < xs.length
    · obtain ⟨f, rfl⟩ : ∃ k, f = k + 1 := ⟨f - 1, by omega⟩
      obtain ⟨g, o, rfl, hg, hat⟩ := H.out.rd.at_ hlt
      clear hat
      have R := Lib.hid (H.out.dr (Nat.le_of_lt hlt))
      have hadd := add_addr g o a
      have hac : ¬ a = c := by omega
      have h0d : 0 < (xs.drop a).length := by rw [List.length_drop]; omega
      have hld : (xs.drop a).length = xs.length - a := List.length_drop
      obtain ⟨⟨sn, sl, se⟩, hS⟩ : ∃ S, skpM (xs.drop a) = S := ⟨_, rfl⟩
      have hSn : sn ≤ xs.length - a := by have q := skp_n _ h0d; rw [hS, hld] at q; exact q
      have HSK := Lib.hid hS
      have HST : Hid (runM xs a nl (rs.map (·.t)) (f + 1) = if se ≠ 0 then ⟨[], a, se⟩
        else if 0 < sn then runM xs (a + sn) (nl || sl) (rs.map (·.t)) f
        else if (redM (xs.drop a) (decide (a = 0))).e ≠ 0 then ⟨[], a, (redM (xs.drop a) (decide (a = 0))).e⟩
        else runM xs (a + (redM (xs.drop a) (decide (a = 0))).n) false (rs.map (·.t) ++ [{ (redM (xs.drop a) (decide (a = 0))).t with a := a, nl := nl }]) f) := Lib.hid (by rw [runM, if_pos hlt, hS])
      have HLD := Lib.hid hld
      have H0D := Lib.hid h0d
      clear hS hld h0d
      by_cases e1 : se = 0
      · have b1 : ((se : Int) != 0) = false := by simp; omega
        by_cases n1 : 0 < sn
        · have d1 : decide ((0 : Int) < (sn : Int)) = true := by simp; omega
          have HE2 : Hid (runM xs 0 false [] xs.length = runM xs (a + sn) (nl || sl) (rs.map (·.t)) f) := Lib.hid (by rw [HE.out, HST.out, if_neg (by simp; exact e1), if_pos n1])
          clear e1 HST HE
          cases nl
          all_goals
            go_wp2_with (go_at_call 31; (with_reducible refine (skp_c _ (xs.drop a) _ _ _ (R.out.plus (by repeat' (first | exact Plus.refl _ | refine Plus.alloc ?_ _ | refine Plus.plus ?_ _ | refine Plus.drew ?_ | refine Plus.drewN ?_ _))) (by omega) (by omega)).mono ?_); rintro e w1 ⟨rfl, ⟨x1, rfl⟩⟩; unfold cmtV; rw [HSK.out])
            go_roundw
            case rel => exact ⟨a + sn, f, _, rs, by rw [show ((a + sn : Nat) : Int) = (a : Int) + sn by omega], rfl, own_plus HW.out (by repeat' (first | exact Plus.refl _ | refine Plus.alloc ?_ _ | refine Plus.plus ?_ _ | refine Plus.drew ?_ | refine Plus.drewN ?_ _)), fun r hr => (HRM.out r hr).plus (by repeat' (first | exact Plus.refl _ | refine Plus.alloc ?_ _ | refine Plus.plus ?_ _ | refine Plus.drew ?_ | refine Plus.drewN ?_ _)), HE2.out, by omega, by omega, by omega, HB.out.trans ((Plus.below (by repeat' (first | exact Plus.refl _ | refine Plus.alloc ?_ _ | refine Plus.plus ?_ _ | refine Plus.drew ?_ | refine Plus.drewN ?_ _))).mono (by simp [go_sem]))⟩
            case measure => simp [intOf]; omega
        · have hz : sn = 0 := by omega
          have HSK2 := HSK.out
          rw [hz, e1] at HSK2
          have HSK := Lib.hid HSK2
          clear HSK2
          obtain ⟨⟨rt, rn, re⟩, hr⟩ : ∃ r, redM (xs.drop a) (decide (a = 0)) = r := ⟨_, rfl⟩
          have HRD := Lib.hid hr
          have hrn : re = 0 → 0 < rn ∧ rn ≤ xs.length - a := by have q := red_n _ (decide (a = 0)) H0D.out; rw [hr, HLD.out] at q; exact q
          by_cases e2 : re = 0
          · obtain ⟨hr1, hr2⟩ := hrn e2
            have b2 : ((re : Int) != 0) = false := by simp; omega
            have HE2 : Hid (runM xs 0 false [] xs.length = runM xs (a + rn) false (rs.map (·.t) ++ [{ rt with a := a, nl := nl }]) f) := Lib.hid (by rw [HE.out, HST.out, if_neg (by simp; exact e1), if_neg n1, hr, if_neg (by simp; exact e2)])
            have HRD2 := HRD.out
            rw [e2] at HRD2
            have HRD := Lib.hid HRD2
            clear e1 e2 n1 HST HE hrn hr HRD2 hz hSn b1 b2
            go_wp2_with (first | (go_at_call 31; (with_reducible refine (skp_c _ (xs.drop a) _ _ _ (R.out.plus (by repeat' (first | exact Plus.refl _ | refine Plus.alloc ?_ _ | refine Plus.plus ?_ _ | refine Plus.drew ?_ | refine Plus.drewN ?_ _))) (by omega) (by omega)).mono ?_); rintro e w1 ⟨rfl, ⟨x1, rfl⟩⟩; unfold cmtV; rw [HSK.out]) | (go_at_call 32; (with_reducible refine (red_c g o xs _ c a _ (H.out.plus (by repeat' (first | exact Plus.refl _ | refine Plus.alloc ?_ _ | refine Plus.plus ?_ _ | refine Plus.drew ?_ | refine Plus.drewN ?_ _))) hlt (by omega) (HL.out.plus (by repeat' (first | exact Plus.refl _ | refine Plus.alloc ?_ _ | refine Plus.plus ?_ _ | refine Plus.drew ?_ | refine Plus.drewN ?_ _)))).mono ?_); rintro e w1 ⟨As, cs, Am, cm, rfl, hM, ⟨x5, rfl⟩⟩; have HMM := Lib.hid hM; clear hM; unfold tkV; rw [HRD.out]) | (at_builtin; refine wpList_append_own _ rfl _ _ 26 rfl w.heap.size 36 i0 (.agg #[.int .i64 0, .string ⟨#[]⟩, .slice none 0 0, .int .i64 0, .int .i64 0, .bool false, .slice none 0 0, .int .i64 0, .bool false]) 9 112 Tryd.underlying26 hi hz0 hz1 hz2 rfl (by decide) _ _ _ rfl (own_alloc (own_alloc (own_plus HW.out (Plus.is _ |>.plus _)) _) _) ⟨w.heap.size + x0.blocks.length + x1.blocks.length + x5.blocks.length + 1, 0, none⟩ 1 1 [.int .i64 rt.k, .string rt.t, .slice As rt.s.length cs, .int .i64 rt.nk, .int .i64 rt.n, .bool (decide (rt.b < 0)), .slice Am (Bg.dig rt.b.natAbs).length cm, .int .i64 a, .bool nl] rfl rfl (news_at' _ _ _ _ (by simp [go_sem])) (one9 _ _ _ _ _ _ _ _ _ _ _ _ _) (by unfold maxLen; omega) (by omega) (by simp [go_sem] <;> omega) ?_; intro v1 w1 hown1 hgr1 _; have HW2 := Lib.hid hown1; have HG2 := Lib.hid hgr1; clear hown1 hgr1))
            go_roundw
            case rel =>
              have hP : Plus (plus w x0) ((plus (plus (plus w x0) x1) x5).alloc (.cells #[.int .i64 rt.k, .string rt.t, .slice As rt.s.length cs, .int .i64 rt.nk, .int .i64 rt.n, .bool (decide (rt.b < 0)), .slice Am (Bg.dig rt.b.natAbs).length cm, .int .i64 a, .bool nl] 36)) := (by repeat' (first | exact Plus.refl _ | refine Plus.alloc ?_ _ | refine Plus.plus ?_ _ | refine Plus.drew ?_ | refine Plus.drewN ?_ _))
              have hO := own_plus HW.out hP
              refine ⟨a + rn, f, false, rs ++ [⟨{ rt with a := a, nl := nl }, As, cs, Am, cm⟩], by rw [show ((a + rn : Nat) : Int) = (a : Int) + rn by omega], rfl, ?_, fun r hr => ?_, by rw [HE2.out, List.map_append]; rfl, by omega, by omega, by rw [List.length_append]; simp; omega, below_own hO HG2.out (HB.out.trans (hP.below.mono (by simp [go_sem]))) (by simp [go_sem]; omega)⟩
              · rw [rowC_snoc, List.length_append]
                exact HW2.out
              · rcases List.mem_append.1 hr with h | h
                · exact TkM.grown ((HRM.out r h).plus (hP.alloc _)) HG2.out (own_ty_alloc hO _)
                · simp at h
                  subst h
                  have hM := HMM.out
                  rw [HRD.out] at hM
                  exact TkM.grown (hM.plus (((Plus.refl _).alloc _).alloc _)) HG2.out (own_ty_alloc hO _)
            case measure => simp [intOf]; omega
          · have b2 : ((re : Int) != 0) = true := by simp; omega
            have HR : Hid (runM xs 0 false [] xs.length = ⟨[], a, re⟩) := Lib.hid (by rw [HE.out, HST.out, if_neg (by simp; exact e1), if_neg n1, hr, if_pos (by simp; exact e2)])
            clear e1 e2 n1 HST HE hrn hr hz
            go_wp2_with (first | (go_at_call 31; (with_reducible refine (skp_c _ (xs.drop a) _ _ _ (R.out.plus (by repeat' (first | exact Plus.refl _ | refine Plus.alloc ?_ _ | refine Plus.plus ?_ _ | refine Plus.drew ?_ | refine Plus.drewN ?_ _))) (by omega) (by omega)).mono ?_); rintro e w1 ⟨rfl, ⟨x1, rfl⟩⟩; unfold cmtV; rw [HSK.out]) | (go_at_call 32; (with_reducible refine (red_c g o xs _ c a _ (H.out.plus (by repeat' (first | exact Plus.refl _ | refine Plus.alloc ?_ _ | refine Plus.plus ?_ _ | refine Plus.drew ?_ | refine Plus.drewN ?_ _))) hlt (by omega) (HL.out.plus (by repeat' (first | exact Plus.refl _ | refine Plus.alloc ?_ _ | refine Plus.plus ?_ _ | refine Plus.drew ?_ | refine Plus.drewN ?_ _)))).mono ?_); rintro e w1 ⟨As, cs, Am, cm, rfl, hM, ⟨x5, rfl⟩⟩; have HMM := Lib.hid hM; clear hM; unfold tkV; rw [HRD.out]))
            rw [Exit.noGoto_ret]
            go_ret3
            rw [HR.out]
            exact RetToks.er (by repeat' (first | exact Plus.refl _ | refine Plus.alloc ?_ _ | refine Plus.plus ?_ _ | refine Plus.drew ?_ | refine Plus.drewN ?_ _))
      · have b1 : ((se : Int) != 0) = true := by simp; omega
        have HR : Hid (runM xs 0 false [] xs.length = ⟨[], a, se⟩) := Lib.hid (by rw [HE.out, HST.out, if_pos (by simp; exact e1)])
        clear e1 HST HE
        go_wp2_with (go_at_call 31; (with_reducible refine (skp_c _ (xs.drop a) _ _ _ (R.out.plus (by repeat' (first | exact Plus.refl _ | refine Plus.alloc ?_ _ | refine Plus.plus ?_ _ | refine Plus.drew ?_ | refine Plus.drewN ?_ _))) (by omega) (by omega)).mono ?_); rintro e w1 ⟨rfl, ⟨x1, rfl⟩⟩; unfold cmtV; rw [HSK.out])
        rw [Exit.noGoto_ret]
        go_ret3
        rw [HR.out]
        exact RetToks.er (by repeat' (first | exact Plus.refl _ | refine Plus.alloc ?_ _ | refine Plus.plus ?_ _ | refine Plus.drew ?_ | refine Plus.drewN ?_ _))
    · have HR : Hid (runM xs 0 false [] xs.length = ⟨rs.map (·.t) ++ [{ tk0 with a := a, nl := nl }], 0, 0⟩) := Lib.hid (by
        rw [HE.out]
        cases f with
        | zero => rfl
        | succ f => rw [runM, if_neg hlt])
      go_wp2_with (at_builtin; refine wpList_append_own _ rfl _ _ 26 rfl w.heap.size 36 i0 (.agg #[.int .i64 0, .string ⟨#[]⟩, .slice none 0 0, .int .i64 0, .int .i64 0, .bool false, .slice none 0 0, .int .i64 0, .bool false]) 9 112 Tryd.underlying26 hi hz0 hz1 hz2 rfl (by decide) _ _ _ rfl (own_alloc HW.out _) ⟨w.heap.size + x0.blocks.length, 0, none⟩ 1 1 [.int .i64 0, .string ⟨#[]⟩, .slice none 0 0, .int .i64 0, .int .i64 0, .bool false, .slice none 0 0, .int .i64 a, .bool nl] rfl rfl (news_at' _ _ _ _ (by simp [go_sem])) (one9 _ _ _ _ _ _ _ _ _ _ _ _ _) (by unfold maxLen; omega) (by omega) (by simp [go_sem] <;> omega) ?_; intro v1 w1 hown1 hgr1 _; have HW2 := Lib.hid hown1; have HG2 := Lib.hid hgr1; clear hown1 hgr1)
      go_ret3
      rw [HR.out]
      refine ⟨v1, rs ++ [⟨{ tk0 with a := a, nl := nl }, none, 0, none, 0⟩], rfl, by simp, ?_, fun r hr => ?_, Plus.of_below (below_own HW.out HG2.out HB.out (by simp [go_sem]))⟩
      · rw [rowC_snoc, trC_end, List.length_append]
        exact HW2.out
      · rcases List.mem_append.1 hr with h | h
        · exact TkM.grown ((HRM.out r h).plus ((Plus.refl _).alloc _)) HG2.out (own_ty_alloc HW.out _)
        · simp at h
          subst h
          exact TkM.zero _

theorem tok_c (A : Option Addr) (xs : List Nat) (n c : Nat) (w : World) (h : Ar .u16 65536 w A xs n c) (hn : n ≤ 140737488355) (hL : Lai w) :
    Calls Tryd.prog 18 #[.slice A n c] w (RetToks (tokM xs) w) := by
  have hlen := h.len
  by_cases hl : 4096 < xs.length
  · have HM : Hid (tokM xs = ⟨[], 0, 3⟩) := Lib.hid (by unfold tokM; rw [if_pos hl])
    have d0 : decide ((4096 : Int) < (n : Int)) = true := by simp; omega
    clear h hlen hl
    go_enter Tryd.func18, Tryd.ntmps18
    go_wp2
    go_step3
    go_wp2
    rw [Exit.noGoto_ret]
    go_ret3
    rw [HM.out]
    exact RetToks.er (Plus.refl _)
  · have hM : tokM xs = runM xs 0 false [] xs.length := by unfold tokM; rw [if_neg hl]
    rw [hM]
    subst hlen
    exact tok_h A xs c w h (by omega) hL
end Go.Proofs.YtaigkjffglbknaaDoor
