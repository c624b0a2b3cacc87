/- Contracts: strings. -/
import Derived.Test.YtaigkjffglbknaaDoorA14
namespace Go.Proofs.YtaigkjffglbknaaDoor
open Go.RowKit


set_option maxRecDepth 100000 in
set_option maxHeartbeats 8000000 in
theorem quo_c (A : Option Addr) (xs : List Nat) (n c : Nat) (w : World) (h : Ar .u16 65536 w A xs n c) (hn : n ≤ 140737488355) (hn0 : 0 < n) :
    Calls Tryd.prog 48 #[.slice A n c] w (RetTok (quoM xs 1 [] xs.length) w) := by
  have H := Lib.hid h
  obtain ⟨hrd, hlen, hcap, hmax, hbd⟩ := h
  subst hlen
  obtain ⟨i0, hi, hz0, hz1, hz2⟩ := info_parts infoU16
  obtain ⟨g, o, rfl, hg, hat⟩ := hrd.at_ hn0
  have HAT := Lib.hid hat
  have HRD := Lib.hid hrd
  have HBD := Lib.hid hbd
  obtain ⟨q, hq⟩ : ∃ q, xs.getD 0 0 = q := ⟨_, rfl⟩
  have HQ0 : Hid (uAt xs 0 = q) := Lib.hid hq
  have hq0 : w.cell? ⟨g, o, none⟩ = some (.int .u16 q) := by have := hat 0 hn0; rw [hq] at this; exact this
  have HC0 := Lib.hid hq0
  clear hat hrd hbd hq hq0
  go_enter Tryd.func48, Tryd.ntmps48
  go_wp2
  go_step3
  go_wp2
  go_step3
  go_wp2
  go_loopw [5, 6] (fun s5 s6 wr => QuRel xs w s5 s6 wr) (fun _ s6 _ => ((xs.length : Int) - intOf s6).toNat)
  case atStart =>
    have st := World.ownsRow_made (base := w.heap.size + 1) (e := 40) (size := 1) (w.alloc (.cells #[.int .i64 0, .string ⟨#[]⟩, .slice none 0 0, .int .i64 0, .int .i64 0, .bool false, .slice none 0 0, .int .i64 0, .bool false] 36)) #[] 0 (by simp) (by decide) rfl
    rw [World.size_alloc] at st
    exact ⟨1, xs.length, [], rfl, by omega, by omega, st, rfl, by omega, fun x hx => by simp at hx, by simp, (Below.refl _ _).alloc (by simp) _⟩
  case round =>
    obtain ⟨i, m, s, rfl, hi1, hi6, hown, he, hm, hsb, hsl, hB⟩ := hrel
    obtain ⟨x0, rfl⟩ := Plus.of_below (w := (w.alloc (.cells #[.int .i64 0, .string ⟨#[]⟩, .slice none 0 0, .int .i64 0, .int .i64 0, .bool false, .slice none 0 0, .int .i64 0, .bool false] 36))) (by rw [World.size_alloc]; exact hB)
    have HW := Lib.hid hown
    have HE := Lib.hid he
    have HSB := Lib.hid hsb
    have HB := Lib.hid hB
    clear hown he hsb hB
    by_cases hlt : i < xs.length
    · obtain ⟨f, rfl, hst⟩ := quo_step xs i m s hlt hm
      obtain ⟨v, hv⟩ : ∃ v, uAt xs i = v := ⟨_, rfl⟩
      rw [hv, HQ0.out] at hst
      have hcw : w.cell? ⟨g, o + i, none⟩ = some (.int .u16 v) := by have q := HAT.out i hlt; rw [show xs.getD i 0 = v from hv] at q; exact q
      have hcell : (plus (w.alloc (.cells #[.int .i64 0, .string ⟨#[]⟩, .slice none 0 0, .int .i64 0, .int .i64 0, .bool false, .slice none 0 0, .int .i64 0, .bool false] 36)) x0).cell? ⟨g, o + i, none⟩ = some (.int .u16 v) := cell_plus hcw (by repeat' (first | exact Plus.refl _ | refine Plus.alloc ?_ _ | refine Plus.plus ?_ _ | refine Plus.drew ?_ | refine Plus.drewN ?_ _))
      have hcell0 : (plus (w.alloc (.cells #[.int .i64 0, .string ⟨#[]⟩, .slice none 0 0, .int .i64 0, .int .i64 0, .bool false, .slice none 0 0, .int .i64 0, .bool false] 36)) x0).cell? ⟨g, o, none⟩ = some (.int .u16 q) := cell_plus HC0.out (by repeat' (first | exact Plus.refl _ | refine Plus.alloc ?_ _ | refine Plus.plus ?_ _ | refine Plus.drew ?_ | refine Plus.drewN ?_ _))
      have hadd := add_addr g o i
      have hvb : v < 65536 := by rw [← hv]; exact H.out.getD_lt (by decide) _
      have HST := Lib.hid hst
      have HV := Lib.hid hv
      clear hst hv hcw
      by_cases e1 : v = q
      · have b1 : ((v : Int) == (q : Int)) = true := by simp; omega
        have HR : Hid (quoM xs 1 [] xs.length = ⟨{ tk0 with k := 4, s := s }, i + 1, 0⟩) := Lib.hid (by rw [HE.out, HST.out, if_pos e1])
        clear e1 HST HE
        obtain ⟨A1, c1, rfl, r1, r2, r3, r4⟩ := rd_ty HW.out
        have R4 := Lib.hid r4
        have R1 := Lib.hid r1
        have R2 := Lib.hid r2
        have R3 := Lib.hid r3
        clear r1 r2 r3 r4 HW
        go_wp2_with fail
        go_quiet (fail)
        go_wp2_with fail
        rename_i nq
        rw [Exit.noGoto_ret]
        go_returns
        rw [HR.out]
        have hs1 : Ar .u16 65536 (plus (w.alloc (.cells #[.int .i64 0, .string ⟨#[]⟩, .slice none 0 0, .int .i64 0, .int .i64 0, .bool false, .slice none 0 0, .int .i64 0, .bool false] 36)) x0) A1 s s.length c1 := ⟨R3.out, rfl, R1.out, R2.out, HSB.out⟩
        refine RetTok.str (Ar.exc (b := w.heap.size) (hs1.plus ((Plus.refl _).drewN nq)) ?ze ?zn) (ty_exc_rd (b := w.heap.size) (hs1.plus ((Plus.refl _).drewN nq)).rd (ty_plus R4.out ((Plus.refl _).drewN nq)) ?zf ?zm) ?zp
        case ze => repeat' (first | exact Exc.base _ _ _ | refine Exc.alloc ?_ _ | refine Exc.plus ?_ _ | refine Exc.drew ?_ | refine Exc.drewN ?_ _)
        case zn => exact zno16
        case zm => exact zno16
        case zf => repeat' (first | exact Exc.base _ _ _ | refine Exc.alloc ?_ _ | refine Exc.plus ?_ _ | refine Exc.drew ?_ | refine Exc.drewN ?_ _)
        case zp => repeat' (first | exact Plus.refl _ | refine Plus.alloc ?_ _ | refine Plus.plus ?_ _ | refine Plus.drew ?_ | refine Plus.drewN ?_ _)
      · have b1 : ((v : Int) == (q : Int)) = false := by simp; omega
        obtain ⟨b, hb⟩ : ∃ b, isEnd v = b := ⟨_, rfl⟩
        have HBE := Lib.hid hb
        clear hb
        cases b
        · by_cases e2 : v = 92
          · have b2 : ((v : Int) != 92) = false := by simp; omega
            obtain ⟨E, hE⟩ : ∃ E, escM (xs.drop (i + 1)) = E := ⟨_, rfl⟩
            have HEE := Lib.hid hE
            have hEn : E.n ≤ 5 := by rw [← hE]; exact escM_n _
            have hEv : E.v < 65536 := by rw [← hE]; exact escM_v _ (by unfold uAt; rw [getD_drop]; exact H.out.getD_lt (by decide) _)
            have hadd1 := add_addr g o (i + 1)
            have hs2 : i + 1 ≤ xs.length := hlt
            by_cases hcc : c = i + 1
            · subst hcc
              by_cases e3 : E.e = 0
              · have b3 : ((E.e : Int) != 0) = false := by simp; omega
                have HQ2 : Hid (quoM xs 1 [] xs.length = quoM xs (i + (1 + E.n)) (s ++ [E.v]) f) := Lib.hid (by rw [HE.out, HST.out, if_neg e1, HBE.out, if_neg (by decide), if_neg (by simp; exact e2), hE, if_neg (by simp; exact e3)])
                clear e1 e2 e3 HST HE hE
                go_wp2_with fail
                go_quiet (fail)
                rename_i nq
                go_wp2_with (first | (go_at_call 39; (with_reducible refine (isEnd_c v hvb _).mono ?_); rintro e w1 ⟨rfl, rfl⟩; rw [HBE.out]) | (go_at_call 61; (with_reducible refine (esc_c _ (xs.drop (i + 1)) _ _ _ ((H.out.dr hs2).plus (by repeat' (first | exact Plus.refl _ | refine Plus.alloc ?_ _ | refine Plus.plus ?_ _ | refine Plus.drew ?_ | refine Plus.drewN ?_ _)))).mono ?_); rintro e w1 ⟨rfl, ⟨x1, rfl⟩⟩; have HW := Lib.hid (own_plus (own_drewN HW.out nq) (Plus.is x1)); rw [HEE.out]) | (go_at_call 61; (with_reducible refine (esc_c _ (xs.drop (i + 1)) _ _ _ (ar_end0 (by omega))).mono ?_); rintro e w1 ⟨rfl, ⟨x1, rfl⟩⟩; have HW := Lib.hid (own_plus (own_drewN HW.out nq) (Plus.is x1)); rw [HEE.out]) | (at_builtin; refine wpList_append_own _ rfl _ _ 25 rfl (w.heap.size + 1) 40 i0 (.int .u16 0) 1 2 Tryd.underlying25 hi hz0 hz1 hz2 rfl (by decide) _ _ _ rfl (own_alloc HW.out _) ⟨w.heap.size + 1 + x0.blocks.length + x1.blocks.length, 0, none⟩ 1 1 [.int .u16 E.v] rfl rfl (news_at' _ _ _ _ (by simp [go_sem])) (one_u16 [E.v]) (by unfold maxLen; omega) (by omega) (by simp [go_sem] <;> omega) ?_; intro v1 w1 hown1 hgr1 _; have HW2 := Lib.hid hown1; have HG2 := Lib.hid hgr1; clear hown1 hgr1))
                all_goals
                  go_roundw
                  case rel =>
                    refine ⟨i + (1 + E.n), f, s ++ [E.v], by rw [show ((i + (1 + E.n) : Nat) : Int) = (i : Int) + (1 + (E.n : Int)) by omega], by omega, by omega, by rw [List.length_append, vals_app]; exact HW2.out, HQ2.out, by omega, fun x hx => ?_, by rw [List.length_append]; simp; omega, below_own HW.out HG2.out ((below_drewN HB.out _).trans ((Plus.is x1).below.mono (by simp [go_sem] <;> omega))) (by simp [go_sem] <;> omega)⟩
                    rcases List.mem_append.1 hx with h | h
                    · exact HSB.out x h
                    · simp at h; omega
                  case measure => simp [intOf]; omega
              · have b3 : ((E.e : Int) != 0) = true := by simp; omega
                have HR : Hid (quoM xs 1 [] xs.length = flt E.e) := Lib.hid (by rw [HE.out, HST.out, if_neg e1, HBE.out, if_neg (by decide), if_neg (by simp; exact e2), hE, if_pos (by simp; exact e3)])
                clear e1 e2 e3 HST HE hE
                go_wp2_with fail
                go_quiet (fail)
                rename_i nq
                go_wp2_with (first | (go_at_call 39; (with_reducible refine (isEnd_c v hvb _).mono ?_); rintro e w1 ⟨rfl, rfl⟩; rw [HBE.out]) | (go_at_call 61; (with_reducible refine (esc_c _ (xs.drop (i + 1)) _ _ _ ((H.out.dr hs2).plus (by repeat' (first | exact Plus.refl _ | refine Plus.alloc ?_ _ | refine Plus.plus ?_ _ | refine Plus.drew ?_ | refine Plus.drewN ?_ _)))).mono ?_); rintro e w1 ⟨rfl, ⟨x1, rfl⟩⟩; have HW := Lib.hid (own_plus (own_drewN HW.out nq) (Plus.is x1)); rw [HEE.out]) | (go_at_call 61; (with_reducible refine (esc_c _ (xs.drop (i + 1)) _ _ _ (ar_end0 (by omega))).mono ?_); rintro e w1 ⟨rfl, ⟨x1, rfl⟩⟩; have HW := Lib.hid (own_plus (own_drewN HW.out nq) (Plus.is x1)); rw [HEE.out]) | (go_at_call 50; (with_reducible refine (fault_c _ _).mono ?_); rintro e w1 ⟨rfl, ⟨x3, rfl⟩⟩))
                all_goals
                  rw [Exit.noGoto_ret]
                  go_returns
                  rw [HR.out]
                  exact RetTok.er (by repeat' (first | exact Plus.refl _ | refine Plus.alloc ?_ _ | refine Plus.plus ?_ _ | refine Plus.drew ?_ | refine Plus.drewN ?_ _))
            · have hcc1 : ¬ i + 1 = c := fun e => hcc e.symm
              by_cases e3 : E.e = 0
              · have b3 : ((E.e : Int) != 0) = false := by simp; omega
                have HQ2 : Hid (quoM xs 1 [] xs.length = quoM xs (i + (1 + E.n)) (s ++ [E.v]) f) := Lib.hid (by rw [HE.out, HST.out, if_neg e1, HBE.out, if_neg (by decide), if_neg (by simp; exact e2), hE, if_neg (by simp; exact e3)])
                clear e1 e2 e3 HST HE hE
                go_wp2_with fail
                go_quiet (fail)
                rename_i nq
                go_wp2_with (first | (go_at_call 39; (with_reducible refine (isEnd_c v hvb _).mono ?_); rintro e w1 ⟨rfl, rfl⟩; rw [HBE.out]) | (go_at_call 61; (with_reducible refine (esc_c _ (xs.drop (i + 1)) _ _ _ ((H.out.dr hs2).plus (by repeat' (first | exact Plus.refl _ | refine Plus.alloc ?_ _ | refine Plus.plus ?_ _ | refine Plus.drew ?_ | refine Plus.drewN ?_ _)))).mono ?_); rintro e w1 ⟨rfl, ⟨x1, rfl⟩⟩; have HW := Lib.hid (own_plus (own_drewN HW.out nq) (Plus.is x1)); rw [HEE.out]) | (go_at_call 61; (with_reducible refine (esc_c _ (xs.drop (i + 1)) _ _ _ (ar_end0 (by omega))).mono ?_); rintro e w1 ⟨rfl, ⟨x1, rfl⟩⟩; have HW := Lib.hid (own_plus (own_drewN HW.out nq) (Plus.is x1)); rw [HEE.out]) | (at_builtin; refine wpList_append_own _ rfl _ _ 25 rfl (w.heap.size + 1) 40 i0 (.int .u16 0) 1 2 Tryd.underlying25 hi hz0 hz1 hz2 rfl (by decide) _ _ _ rfl (own_alloc HW.out _) ⟨w.heap.size + 1 + x0.blocks.length + x1.blocks.length, 0, none⟩ 1 1 [.int .u16 E.v] rfl rfl (news_at' _ _ _ _ (by simp [go_sem])) (one_u16 [E.v]) (by unfold maxLen; omega) (by omega) (by simp [go_sem] <;> omega) ?_; intro v1 w1 hown1 hgr1 _; have HW2 := Lib.hid hown1; have HG2 := Lib.hid hgr1; clear hown1 hgr1))
                all_goals
                  go_roundw
                  case rel =>
                    refine ⟨i + (1 + E.n), f, s ++ [E.v], by rw [show ((i + (1 + E.n) : Nat) : Int) = (i : Int) + (1 + (E.n : Int)) by omega], by omega, by omega, by rw [List.length_append, vals_app]; exact HW2.out, HQ2.out, by omega, fun x hx => ?_, by rw [List.length_append]; simp; omega, below_own HW.out HG2.out ((below_drewN HB.out _).trans ((Plus.is x1).below.mono (by simp [go_sem] <;> omega))) (by simp [go_sem] <;> omega)⟩
                    rcases List.mem_append.1 hx with h | h
                    · exact HSB.out x h
                    · simp at h; omega
                  case measure => simp [intOf]; omega
              · have b3 : ((E.e : Int) != 0) = true := by simp; omega
                have HR : Hid (quoM xs 1 [] xs.length = flt E.e) := Lib.hid (by rw [HE.out, HST.out, if_neg e1, HBE.out, if_neg (by decide), if_neg (by simp; exact e2), hE, if_pos (by simp; exact e3)])
                clear e1 e2 e3 HST HE hE
                go_wp2_with fail
                go_quiet (fail)
                rename_i nq
                go_wp2_with (first | (go_at_call 39; (with_reducible refine (isEnd_c v hvb _).mono ?_); rintro e w1 ⟨rfl, rfl⟩; rw [HBE.out]) | (go_at_call 61; (with_reducible refine (esc_c _ (xs.drop (i + 1)) _ _ _ ((H.out.dr hs2).plus (by repeat' (first | exact Plus.refl _ | refine Plus.alloc ?_ _ | refine Plus.plus ?_ _ | refine Plus.drew ?_ | refine Plus.drewN ?_ _)))).mono ?_); rintro e w1 ⟨rfl, ⟨x1, rfl⟩⟩; have HW := Lib.hid (own_plus (own_drewN HW.out nq) (Plus.is x1)); rw [HEE.out]) | (go_at_call 61; (with_reducible refine (esc_c _ (xs.drop (i + 1)) _ _ _ (ar_end0 (by omega))).mono ?_); rintro e w1 ⟨rfl, ⟨x1, rfl⟩⟩; have HW := Lib.hid (own_plus (own_drewN HW.out nq) (Plus.is x1)); rw [HEE.out]) | (go_at_call 50; (with_reducible refine (fault_c _ _).mono ?_); rintro e w1 ⟨rfl, ⟨x3, rfl⟩⟩))
                all_goals
                  rw [Exit.noGoto_ret]
                  go_returns
                  rw [HR.out]
                  exact RetTok.er (by repeat' (first | exact Plus.refl _ | refine Plus.alloc ?_ _ | refine Plus.plus ?_ _ | refine Plus.drew ?_ | refine Plus.drewN ?_ _))
          · have b2 : ((v : Int) != 92) = true := by simp; omega
            have HQ2 : Hid (quoM xs 1 [] xs.length = quoM xs (i + 1) (s ++ [v]) f) := Lib.hid (by rw [HE.out, HST.out, if_neg e1, HBE.out, if_neg (by decide), if_pos e2])
            clear e1 e2 HST HE
            go_wp2_with fail
            go_quiet (fail)
            go_wp2_with (first | (go_at_call 39; (with_reducible refine (isEnd_c v hvb _).mono ?_); rintro e w1 ⟨rfl, rfl⟩; rw [HBE.out]) | (at_builtin; refine wpList_append_own _ rfl _ _ 25 rfl (w.heap.size + 1) 40 i0 (.int .u16 0) 1 2 Tryd.underlying25 hi hz0 hz1 hz2 rfl (by decide) _ _ _ rfl (own_alloc HW.out _) ⟨w.heap.size + 1 + x0.blocks.length, 0, none⟩ 1 1 [.int .u16 v] rfl rfl (news_at' _ _ _ _ (by simp [go_sem])) (one_u16 [v]) (by unfold maxLen; omega) (by omega) (by simp [go_sem] <;> omega) ?_; intro v1 w1 hown1 hgr1 _; have HW2 := Lib.hid hown1; have HG2 := Lib.hid hgr1; clear hown1 hgr1))
            go_roundw
            case rel =>
              refine ⟨i + 1, f, s ++ [v], by rw [show ((i + 1 : Nat) : Int) = (i : Int) + 1 by omega], by omega, by omega, by rw [List.length_append, vals_app]; exact HW2.out, HQ2.out, by omega, fun x hx => ?_, by rw [List.length_append]; simp; omega, below_own (own_drewN HW.out _) HG2.out (below_drewN HB.out _) (by simp [go_sem])⟩
              rcases List.mem_append.1 hx with h | h
              · exact HSB.out x h
              · simp at h; omega
            case measure => simp [intOf]; omega
        · have HR : Hid (quoM xs 1 [] xs.length = flt 5) := Lib.hid (by rw [HE.out, HST.out, if_neg e1, HBE.out]; rfl)
          clear e1 HST HE
          go_wp2_with fail
          go_quiet (fail)
          go_wp2_with (first | (go_at_call 39; (with_reducible refine (isEnd_c v hvb _).mono ?_); rintro e w1 ⟨rfl, rfl⟩; rw [HBE.out]) | (go_at_call 50; (with_reducible refine (fault_c _ _).mono ?_); rintro e w1 ⟨rfl, ⟨x3, rfl⟩⟩))
          rw [Exit.noGoto_ret]
          go_returns
          rw [HR.out]
          exact RetTok.er (by repeat' (first | exact Plus.refl _ | refine Plus.alloc ?_ _ | refine Plus.plus ?_ _ | refine Plus.drew ?_ | refine Plus.drewN ?_ _))
    · have HR : Hid (quoM xs 1 [] xs.length = flt 5) := Lib.hid (by rw [HE.out, quo_end _ _ _ _ hlt])
      go_wp2_with (go_at_call 50; (with_reducible refine (fault_c _ _).mono ?_); rintro e w1 ⟨rfl, ⟨x3, rfl⟩⟩)
      rw [Exit.noGoto_ret]
      go_returns
      rw [HR.out]
      exact RetTok.er (by repeat' (first | exact Plus.refl _ | refine Plus.alloc ?_ _ | refine Plus.plus ?_ _ | refine Plus.drew ?_ | refine Plus.drewN ?_ _))
end Go.Proofs.YtaigkjffglbknaaDoor
