/- The walk of LexRemarks, where a remark may be open. -/
import Derived.Deep.QuietTactic
import Derived.BigQuiet
import Derived.IntWalk
import Derived.Test.YtaigkjffglbknaaDoorL10w
namespace Go.Proofs.YtaigkjffglbknaaDoor
open Go.RowKit

set_option maxRecDepth 100000 in
set_option maxHeartbeats 64000000 in
theorem rem_opf (A1 A2 A3 : Option Addr) (xs ys zs : List Nat) (n c m d q b : Nat) (w : World) (HL : Hid (Lai w)) (ha : Hid (Ar .u16 65536 w A1 xs n c)) (hb : Hid (Ar .u16 65536 w A2 ys m d)) (hc : Hid (Ar .u16 65536 w A3 zs q b)) (hn : n ≤ 1000) (hm : m ≤ 1000) (hq : q ≤ 1000) (dn : decide ((1000 : Int) < (n : Int)) = false) (dm : decide ((1000 : Int) < (m : Int)) = false) (dq : decide ((1000 : Int) < (q : Int)) = false) (HG : Hid (zs.any inB = false)) (HE : Hid (zs.any isEnd = false)) (L1 : List Tk) (T1 : Hid (tokM xs = ⟨L1, 0, 0⟩)) (HOP : Hid (∀ k, xs.length ≤ k + 1 → (k = 0 ∨ k < xs.length) → opK xs k = true)) :
    Calls Tryd.prog 10 #[.slice A1 n c, .slice A2 m d, .slice A3 q b] w fun e w' => e = .returned (.bool true) ∧ Plus w w' := by
  obtain ⟨i0, hi, hz0, hz1, hz2⟩ := info_parts infoU16
  have hlen := Lib.hid ha.out.len
  have hlen2 := Lib.hid hb.out.len
  have hlen3 := Lib.hid hc.out.len
  have hxl : xs.length ≤ 1000 := by have := ha.out.len; omega
  have hyl : ys.length ≤ 1000 := by have := hb.out.len; omega
  have hzl : zs.length ≤ 1000 := by have := hc.out.len; omega
  go_enter Tryd.func10, Tryd.ntmps10
  go_wp2_with (go_at_call 11; (with_reducible refine (first_c _ (Lib.hid (HL.out.plus (by repeat' (first | exact Plus.refl _ | refine Plus.alloc ?_ _ | refine Plus.plus ?_ _ | refine Plus.drew ?_ | refine Plus.drewN ?_ _))))).mono ?_); rintro e w1 ⟨rfl, ⟨y0, rfl⟩⟩)
  go_loop [7, 8] (fun s7 s8 => InRel zs s7 s8) (fun _ s8 => ((q : Int) - intOf s8).toNat)
  case atStart => exact ⟨0, by omega, rfl, rfl, rfl⟩
  case round =>
    obtain ⟨k, hk, rfl, rfl, hbd⟩ := hrel
    have HBD := Lib.hid hbd
    clear hbd
    obtain ⟨bb, hbb⟩ : ∃ bb, (zs.take k).any isEnd = bb := ⟨_, rfl⟩
    have HBB := Lib.hid hbb
    rw [hbb]
    clear hbb
    by_cases hlt : k < q
    · have hlt' : k < zs.length := by have := hlen3.out; omega
      obtain ⟨g, o, rfl, hg, hat⟩ := hc.out.rd.at_ hlt'
      have hcell := hat k hlt'
      have hadd := add_addr g o k
      have I0 : Old g w := ⟨hg⟩
      obtain ⟨x, hx⟩ : ∃ x, zs.getD k 0 = x := ⟨_, rfl⟩
      have HNX := Lib.hid (any_next (p := isEnd) hlt')
      have HNB := Lib.hid (any_next (p := inB) hlt')
      rw [hx] at hcell
      have HX := Lib.hid hx
      have HAT := Lib.hid hat
      clear hat hx
      have hgx : inB x = false := by
        have h := List.any_eq_false.1 HG.out x (by rw [← HX.out]; exact getD_mem hlt')
        simpa using h
      have HGX := Lib.hid hgx
      have t1 : ((x : Int) == 42) = false := by simp [inB] at hgx; simp; omega
      have t2 : ((x : Int) == 8232) = false := by simp [inB] at hgx; simp; omega
      have t3 : ((x : Int) == 8233) = false := by simp [inB] at hgx; simp; omega
      clear hgx
      have HN2 : Hid ((zs.take (k + 1)).any inB = false) := Lib.hid (by rw [HNB.out, HBD.out, HX.out, HGX.out]; rfl)
      cases bb
      · have hcs : ((x : Int) == 10) = true ∧ isEnd x = true ∨ ((x : Int) == 10) = false ∧ ((x : Int) == 13) = true ∧ isEnd x = true ∨ ((x : Int) == 10) = false ∧ ((x : Int) == 13) = false ∧ isEnd x = false := by
          unfold isEnd
          simp
          omega
        rcases hcs with ⟨t4, p⟩ | ⟨t4, t5, p⟩ | ⟨t4, t5, p⟩
        all_goals
          have HN := Lib.hid (HNX.out.trans (by rw [HBB.out, HX.out, p]))
          clear p
          go_wp2_with fail
          go_round
          case rel => exact ⟨k + 1, hlt', by rw [show ((k + 1 : Nat) : Int) = (k : Int) + 1 by omega], by rw [HN.out]; rfl, HN2.out⟩
          case measure => simp [intOf]; omega
      · have HN : Hid ((zs.take (k + 1)).any isEnd = true) := Lib.hid (by rw [HNX.out, HBB.out]; rfl)
        go_wp2_with fail
        go_round
        case rel => exact ⟨k + 1, hlt', by rw [show ((k + 1 : Nat) : Int) = (k : Int) + 1 by omega], by rw [HN.out], HN2.out⟩
        case measure => simp [intOf]; omega
    · obtain rfl : k = q := by have := hlen3.out; omega
      obtain rfl : bb = false := by
        have := HBB.out
        rw [hlen3.out, List.take_length, HE.out] at this
        exact this.symm
      have NBT : Hid (Ar .u16 65536 ((plus w y0).alloc (.cells #[.int .u16 32] 40)) (some ⟨w.heap.size + y0.blocks.length, 0, none⟩) [32] 1 1) := Lib.hid (ar_lit (plus w y0) 32 32 (by omega) (by decide) _ (by simp [go_sem]) 40)
      go_wp2_with (first | (at_builtin; refine wpList_append_rd (by rfl) _ _ 25 rfl ((plus w y0).alloc (.cells #[.int .u16 32] 40)).heap.size 40 i0 (.int .u16 0) 2 .u16 Tryd.underlying25 hi hz0 hz1 hz2 (by decide) _ ([32, 47, 42] ++ zs) [42, 47] rfl (own_alloc HO1.out _) _ _ _ rfl rfl (rd_lit2 (plus ((plus w y0).alloc (.cells #[.int .u16 32] 40)) z1) _ (by simp [go_sem]) 40) (by (try simp); unfold maxLen; omega) (by (try simp); omega) (by simp [go_sem] <;> omega) ?_; intro v2 w2 hown2 hgr2; obtain ⟨z2, rfl⟩ := below_rd (own_alloc HO1.out _) (show Plus ((plus w y0).alloc (.cells #[.int .u16 32] 40)) _ from (by repeat' (first | exact Plus.refl _ | refine Plus.alloc ?_ _ | refine Plus.plus ?_ _ | refine Plus.drew ?_ | refine Plus.drewN ?_ _))) hgr2; have HO2 : Hid ((plus ((plus w y0).alloc (.cells #[.int .u16 32] 40)) z2).ownsRow ((plus w y0).alloc (.cells #[.int .u16 32] 40)).heap.size 40 1 v2 (([32, 47, 42] ++ zs) ++ [42, 47]).length (vals .u16 (([32, 47, 42] ++ zs) ++ [42, 47]))) := Lib.hid (own_cat hown2); clear hown2 hgr2) | (at_builtin; refine wpList_append_rd (by rfl) _ _ 25 rfl ((plus w y0).alloc (.cells #[.int .u16 32] 40)).heap.size 40 i0 (.int .u16 0) 2 .u16 Tryd.underlying25 hi hz0 hz1 hz2 (by decide) _ [32, 47, 42] zs rfl (own_lit3 ((plus w y0).alloc (.cells #[.int .u16 32] 40)) _ (by simp [go_sem])) _ _ _ rfl hlen3.out (hc.out.rd.plus (by repeat' (first | exact Plus.refl _ | refine Plus.alloc ?_ _ | refine Plus.plus ?_ _ | refine Plus.drew ?_ | refine Plus.drewN ?_ _))) (by (try simp); unfold maxLen; omega) (by (try simp); omega) (by simp [go_sem] <;> omega) ?_; intro v1 w1 hown1 hgr1; obtain ⟨z1, rfl⟩ := below_rd (own_lit3 ((plus w y0).alloc (.cells #[.int .u16 32] 40)) _ (by simp [go_sem])) (show Plus ((plus w y0).alloc (.cells #[.int .u16 32] 40)) _ from (by repeat' (first | exact Plus.refl _ | refine Plus.alloc ?_ _ | refine Plus.plus ?_ _ | refine Plus.drew ?_ | refine Plus.drewN ?_ _))) hgr1; have HO1 : Hid ((plus ((plus w y0).alloc (.cells #[.int .u16 32] 40)) z1).ownsRow ((plus w y0).alloc (.cells #[.int .u16 32] 40)).heap.size 40 1 v1 ([32, 47, 42] ++ zs).length (vals .u16 ([32, 47, 42] ++ zs))) := Lib.hid (own_cat hown1); clear hown1 hgr1))
      obtain ⟨C2, dd2, rfl, r1, r2, r3⟩ := rd_of_own HO2.out
      have hbx : ∀ x ∈ (([32, 47, 42] ++ zs) ++ [42, 47]), x < 65536 := fun x hx => by
        simp only [List.mem_append, List.mem_cons, List.not_mem_nil, or_false] at hx
        rcases hx with ((rfl | rfl | rfl) | h) | (rfl | rfl)
        · decide
        · decide
        · decide
        · exact hc.out.bd x h
        · decide
        · decide
      have NR : Hid (Ar .u16 65536 _ C2 (([32, 47, 42] ++ zs) ++ [42, 47]) ((([32, 47, 42] ++ zs) ++ [42, 47])).length dd2) := Lib.hid ⟨r3, rfl, r1, r2, hbx⟩
      clear r1 r2 r3 hbx
      obtain ⟨ql, hql⟩ : ∃ ql, ((([32, 47, 42] ++ zs) ++ [42, 47])).length = ql := ⟨_, rfl⟩
      have HQL := Lib.hid hql
      have hqb : ql ≤ 1005 := by rw [← hql]; simp; omega
      have hqa : 5 ≤ ql := by rw [← hql]; simp
      rw [hql] at NR ⊢
      clear hql HO2
      refine (tokR_c _ xs _ _ _ (ha.out.plus (by repeat' (first | exact Plus.refl _ | refine Plus.alloc ?_ _ | refine Plus.plus ?_ _ | refine Plus.drew ?_ | refine Plus.drewN ?_ _))) (by omega) (HL.out.plus (by repeat' (first | exact Plus.refl _ | refine Plus.alloc ?_ _ | refine Plus.plus ?_ _ | refine Plus.drew ?_ | refine Plus.drewN ?_ _)))).mono ?_
      rintro e w1 ⟨B1, d1, rs1, rfl, m1, k1, j1, R1, t1, ⟨y1, rfl⟩⟩
      rw [T1.out] at m1 ⊢
      dsimp only at m1 ⊢
      have M1 := Lib.hid m1
      have RR1 := Lib.hid R1
      have TT1 := Lib.hid t1
      clear m1 R1 t1
      go_wp2_with fail
      refine (copy_c _ xs _ _ _ (ha.out.plus (by repeat' (first | exact Plus.refl _ | refine Plus.alloc ?_ _ | refine Plus.plus ?_ _ | refine Plus.drew ?_ | refine Plus.drewN ?_ _))) (by omega)).mono ?_
      rintro e w1 ⟨vv, rfl, ho, ⟨z3, rfl⟩⟩
      have HO3 := Lib.hid ho
      clear ho
      go_wp2_with (first | (at_builtin; refine wpList_append_rd (by rfl) _ _ 25 rfl (plus (plus ((plus w y0).alloc (.cells #[.int .u16 32] 40)) z2) y1).heap.size 40 i0 (.int .u16 0) 2 .u16 Tryd.underlying25 hi hz0 hz1 hz2 (by decide) _ (xs ++ [32]) ys rfl HO4.out _ _ _ rfl hlen2.out (hb.out.rd.plus (by repeat' (first | exact Plus.refl _ | refine Plus.alloc ?_ _ | refine Plus.plus ?_ _ | refine Plus.drew ?_ | refine Plus.drewN ?_ _))) (by (try simp); unfold maxLen; omega) (by (try simp); omega) (by simp [go_sem] <;> omega) ?_; intro v5 w5 hown5 hgr5; obtain ⟨z5, rfl⟩ := below_rd HO4.out (show Plus (plus (plus ((plus w y0).alloc (.cells #[.int .u16 32] 40)) z2) y1) _ from (by repeat' (first | exact Plus.refl _ | refine Plus.alloc ?_ _ | refine Plus.plus ?_ _ | refine Plus.drew ?_ | refine Plus.drewN ?_ _))) hgr5; have HO5 : Hid ((plus (plus (plus ((plus w y0).alloc (.cells #[.int .u16 32] 40)) z2) y1) z5).ownsRow (plus (plus ((plus w y0).alloc (.cells #[.int .u16 32] 40)) z2) y1).heap.size 40 1 v5 ((xs ++ [32]) ++ ys).length (vals .u16 ((xs ++ [32]) ++ ys))) := Lib.hid (own_cat hown5); clear hown5 hgr5) | (at_builtin; refine wpList_append_rd (by rfl) _ _ 25 rfl (plus (plus ((plus w y0).alloc (.cells #[.int .u16 32] 40)) z2) y1).heap.size 40 i0 (.int .u16 0) 2 .u16 Tryd.underlying25 hi hz0 hz1 hz2 (by decide) _ xs [32] rfl HO3.out _ _ _ rfl rfl (NBT.out.rd.plus (by repeat' (first | exact Plus.refl _ | refine Plus.alloc ?_ _ | refine Plus.plus ?_ _ | refine Plus.drew ?_ | refine Plus.drewN ?_ _))) (by (try simp); unfold maxLen; omega) (by (try simp); omega) (by simp [go_sem] <;> omega) ?_; intro v4 w4 hown4 hgr4; obtain ⟨z4, rfl⟩ := below_rd HO3.out (show Plus (plus (plus ((plus w y0).alloc (.cells #[.int .u16 32] 40)) z2) y1) _ from (by repeat' (first | exact Plus.refl _ | refine Plus.alloc ?_ _ | refine Plus.plus ?_ _ | refine Plus.drew ?_ | refine Plus.drewN ?_ _))) hgr4; have HO4 : Hid ((plus (plus (plus ((plus w y0).alloc (.cells #[.int .u16 32] 40)) z2) y1) z4).ownsRow (plus (plus ((plus w y0).alloc (.cells #[.int .u16 32] 40)) z2) y1).heap.size 40 1 v4 (xs ++ [32]).length (vals .u16 (xs ++ [32]))) := Lib.hid (own_cat hown4); clear hown4 hgr4))
      obtain ⟨C5, dd5, rfl, r1, r2, r3⟩ := rd_of_own HO5.out
      have hbx : ∀ x ∈ ((xs ++ [32]) ++ ys), x < 65536 := fun x hx => by
        simp only [List.mem_append, List.mem_cons, List.not_mem_nil, or_false] at hx
        rcases hx with (h | rfl) | h
        · exact ha.out.bd x h
        · decide
        · exact hb.out.bd x h
      have NB5 : Hid (Ar .u16 65536 _ C5 ((xs ++ [32]) ++ ys) (((xs ++ [32]) ++ ys)).length dd5) := Lib.hid ⟨r3, rfl, r1, r2, hbx⟩
      clear r1 r2 r3 hbx
      refine (tokR_c C5 ((xs ++ [32]) ++ ys) _ dd5 _ NB5.out (by simp; omega) (HL.out.plus (by repeat' (first | exact Plus.refl _ | refine Plus.alloc ?_ _ | refine Plus.plus ?_ _ | refine Plus.drew ?_ | refine Plus.drewN ?_ _)))).mono ?_
      rintro e w1 ⟨B2, d2, rs2, rfl, m2, k2, j2, R2, t2, ⟨y2, rfl⟩⟩
      have M2 := Lib.hid m2
      have RR2 := Lib.hid R2
      have TT2 := Lib.hid t2
      clear m2 R2 t2
      go_wp2_with fail
      refine (copy_c _ xs _ _ _ (ha.out.plus (by repeat' (first | exact Plus.refl _ | refine Plus.alloc ?_ _ | refine Plus.plus ?_ _ | refine Plus.drew ?_ | refine Plus.drewN ?_ _))) (by omega)).mono ?_
      rintro e w1 ⟨vv, rfl, ho, ⟨z6, rfl⟩⟩
      have HO6 := Lib.hid ho
      clear ho
      have hqx : ((([32, 47, 42] ++ zs) ++ [42, 47])).length ≤ 1005 := by rw [HQL.out]; exact hqb
      obtain ⟨rm, hrm⟩ : ∃ rm, (([32, 47, 42] ++ zs) ++ [42, 47]) = rm := ⟨_, rfl⟩
      rw [hrm] at NR hqx
      have HRM := Lib.hid hrm
      have HNRL := Lib.hid NR.out.len
      go_wp2_with (first | (at_builtin; refine wpList_append_rd (by rfl) _ _ 25 rfl (plus (plus (plus (plus ((plus w y0).alloc (.cells #[.int .u16 32] 40)) z2) y1) z5) y2).heap.size 40 i0 (.int .u16 0) 2 .u16 Tryd.underlying25 hi hz0 hz1 hz2 (by decide) _ (xs ++ rm) ys rfl HO7.out _ _ _ rfl hlen2.out (hb.out.rd.plus (by repeat' (first | exact Plus.refl _ | refine Plus.alloc ?_ _ | refine Plus.plus ?_ _ | refine Plus.drew ?_ | refine Plus.drewN ?_ _))) (by (try simp); unfold maxLen; omega) (by (try simp); omega) (by simp [go_sem] <;> omega) ?_; intro v8 w8 hown8 hgr8; obtain ⟨z8, rfl⟩ := below_rd HO7.out (show Plus (plus (plus (plus (plus ((plus w y0).alloc (.cells #[.int .u16 32] 40)) z2) y1) z5) y2) _ from (by repeat' (first | exact Plus.refl _ | refine Plus.alloc ?_ _ | refine Plus.plus ?_ _ | refine Plus.drew ?_ | refine Plus.drewN ?_ _))) hgr8; have HO8 : Hid ((plus (plus (plus (plus (plus ((plus w y0).alloc (.cells #[.int .u16 32] 40)) z2) y1) z5) y2) z8).ownsRow (plus (plus (plus (plus ((plus w y0).alloc (.cells #[.int .u16 32] 40)) z2) y1) z5) y2).heap.size 40 1 v8 ((xs ++ rm) ++ ys).length (vals .u16 ((xs ++ rm) ++ ys))) := Lib.hid (own_cat hown8); clear hown8 hgr8) | (at_builtin; refine wpList_append_rd (by rfl) _ _ 25 rfl (plus (plus (plus (plus ((plus w y0).alloc (.cells #[.int .u16 32] 40)) z2) y1) z5) y2).heap.size 40 i0 (.int .u16 0) 2 .u16 Tryd.underlying25 hi hz0 hz1 hz2 (by decide) _ xs rm rfl HO6.out _ _ _ rfl HNRL.out (NR.out.rd.plus (by repeat' (first | exact Plus.refl _ | refine Plus.alloc ?_ _ | refine Plus.plus ?_ _ | refine Plus.drew ?_ | refine Plus.drewN ?_ _))) (by (try simp); unfold maxLen; omega) (by (try simp); omega) (by simp [go_sem] <;> omega) ?_; intro v7 w7 hown7 hgr7; obtain ⟨z7, rfl⟩ := below_rd HO6.out (show Plus (plus (plus (plus (plus ((plus w y0).alloc (.cells #[.int .u16 32] 40)) z2) y1) z5) y2) _ from (by repeat' (first | exact Plus.refl _ | refine Plus.alloc ?_ _ | refine Plus.plus ?_ _ | refine Plus.drew ?_ | refine Plus.drewN ?_ _))) hgr7; have HO7 : Hid ((plus (plus (plus (plus (plus ((plus w y0).alloc (.cells #[.int .u16 32] 40)) z2) y1) z5) y2) z7).ownsRow (plus (plus (plus (plus ((plus w y0).alloc (.cells #[.int .u16 32] 40)) z2) y1) z5) y2).heap.size 40 1 v7 (xs ++ rm).length (vals .u16 (xs ++ rm))) := Lib.hid (own_cat hown7); clear hown7 hgr7))
      obtain ⟨C8, dd8, rfl, r1, r2, r3⟩ := rd_of_own HO8.out
      have hbx : ∀ x ∈ ((xs ++ rm) ++ ys), x < 65536 := fun x hx => by
        simp only [List.mem_append] at hx
        rcases hx with (h | h) | h
        · exact ha.out.bd x h
        · exact NR.out.bd x h
        · exact hb.out.bd x h
      have NB8 : Hid (Ar .u16 65536 _ C8 ((xs ++ rm) ++ ys) (((xs ++ rm) ++ ys)).length dd8) := Lib.hid ⟨r3, rfl, r1, r2, hbx⟩
      clear r1 r2 r3 hbx
      clear hrm
      refine (tokR_c C8 ((xs ++ rm) ++ ys) _ dd8 _ NB8.out (by simp; omega) (HL.out.plus (by repeat' (first | exact Plus.refl _ | refine Plus.alloc ?_ _ | refine Plus.plus ?_ _ | refine Plus.drew ?_ | refine Plus.drewN ?_ _)))).mono ?_
      rintro e w1 ⟨B3, d3, rs3, rfl, m3, k3, j3, R3, t3, ⟨y3, rfl⟩⟩
      have M3 := Lib.hid m3
      have RR3 := Lib.hid R3
      have TT3 := Lib.hid t3
      clear m3 R3 t3
      go_wp2_with fail
      go_loop [20, 21] (fun s20 s21 => OpRel xs s20 s21) (fun _ s21 => ((n : Int) - intOf s21).toNat)
      case atStart => exact ⟨0, .inl rfl, rfl, rfl⟩
      case round =>
        obtain ⟨k, hk, rfl, rfl⟩ := hrel
        obtain ⟨bb, hbb⟩ : ∃ bb, opK xs k = bb := ⟨_, rfl⟩
        have HBB := Lib.hid hbb
        rw [hbb]
        clear hbb
        have hkn : k ≤ 1000 := by omega
        by_cases hlt : k + 1 < n
        · have hlt' : k < xs.length := by have := hlen.out; omega
          have hlt2 : k + 1 < xs.length := by have := hlen.out; omega
          obtain ⟨g, o, rfl, hg, hat⟩ := ha.out.rd.at_ hlt'
          have hcell := hat k hlt'
          have hcell2 := hat (k + 1) hlt2
          have hadd := add_addr g o k
          have hadd2 := add_addr g o (k + 1)
          have I0 : Old g w := ⟨hg⟩
          obtain ⟨x, hx⟩ : ∃ x, xs.getD k 0 = x := ⟨_, rfl⟩
          obtain ⟨y, hy⟩ : ∃ y, xs.getD (k + 1) 0 = y := ⟨_, rfl⟩
          have HNX : Hid (opK xs (k + 1) = (bb || (x == 47 && y == 47))) := Lib.hid (by rw [← HBB.out, ← hx, ← hy]; rfl)
          rw [hx] at hcell
          rw [hy] at hcell2
          have hkz : ((k + 1 : Nat) : Int) = (k : Int) + 1 := by omega
          have htn : ((k : Int) + 1).toNat = k + 1 := by omega
          have HAT := Lib.hid hat
          clear hat hx hy
          cases bb
          · have hcs : ((x : Int) == 47) = false ∧ (x == 47 && y == 47) = false ∨ ((x : Int) == 47) = true ∧ ((y : Int) == 47) = false ∧ (x == 47 && y == 47) = false ∨ ((x : Int) == 47) = true ∧ ((y : Int) == 47) = true ∧ (x == 47 && y == 47) = true := by
              simp
              omega
            rcases hcs with ⟨t4, p⟩ | ⟨t4, t5, p⟩ | ⟨t4, t5, p⟩
            all_goals
              have HN := Lib.hid (HNX.out.trans (by rw [p]))
              clear p
              go_wp2_with fail
              go_round
              case rel => exact ⟨k + 1, .inr hlt2, by rw [show ((k + 1 : Nat) : Int) = (k : Int) + 1 by omega], by rw [HN.out]; rfl⟩
              case measure => simp [intOf]; omega
          · have HN : Hid (opK xs (k + 1) = true) := Lib.hid (by rw [HNX.out]; rfl)
            go_wp2_with fail
            go_round
            case rel => exact ⟨k + 1, .inr hlt2, by rw [show ((k + 1 : Nat) : Int) = (k : Int) + 1 by omega], by rw [HN.out]⟩
            case measure => simp [intOf]; omega
        · have hkb : bb = true := by
            rw [← HBB.out]
            exact HOP.out k (by have := hlen.out; omega) hk
          subst hkb
          go_wp2_with (first | (go_at_call 11; (with_reducible refine (first_c _ (Lib.hid (HL.out.plus (by repeat' (first | exact Plus.refl _ | refine Plus.alloc ?_ _ | refine Plus.plus ?_ _ | refine Plus.drew ?_ | refine Plus.drewN ?_ _))))).mono ?_); rintro e w1 ⟨rfl, ⟨y5, rfl⟩⟩))
          go_ret
          exact ⟨rfl, (by repeat' (first | exact Plus.refl _ | refine Plus.alloc ?_ _ | refine Plus.plus ?_ _ | refine Plus.drew ?_ | refine Plus.drewN ?_ _))⟩
set_option maxRecDepth 100000 in
set_option maxHeartbeats 64000000 in
theorem rem_opt (A1 A2 A3 : Option Addr) (xs ys zs : List Nat) (n c m d q b : Nat) (w : World) (HL : Hid (Lai w)) (ha : Hid (Ar .u16 65536 w A1 xs n c)) (hb : Hid (Ar .u16 65536 w A2 ys m d)) (hc : Hid (Ar .u16 65536 w A3 zs q b)) (hn : n ≤ 1000) (hm : m ≤ 1000) (hq : q ≤ 1000) (dn : decide ((1000 : Int) < (n : Int)) = false) (dm : decide ((1000 : Int) < (m : Int)) = false) (dq : decide ((1000 : Int) < (q : Int)) = false) (HG : Hid (zs.any inB = false)) (HE : Hid (zs.any isEnd = true)) (L1 : List Tk) (T1 : Hid (tokM xs = ⟨L1, 0, 0⟩)) (HOP : Hid (∀ k, xs.length ≤ k + 1 → (k = 0 ∨ k < xs.length) → opK xs k = true)) :
    Calls Tryd.prog 10 #[.slice A1 n c, .slice A2 m d, .slice A3 q b] w fun e w' => e = .returned (.bool true) ∧ Plus w w' := by
  obtain ⟨i0, hi, hz0, hz1, hz2⟩ := info_parts infoU16
  have hlen := Lib.hid ha.out.len
  have hlen2 := Lib.hid hb.out.len
  have hlen3 := Lib.hid hc.out.len
  have hxl : xs.length ≤ 1000 := by have := ha.out.len; omega
  have hyl : ys.length ≤ 1000 := by have := hb.out.len; omega
  have hzl : zs.length ≤ 1000 := by have := hc.out.len; omega
  go_enter Tryd.func10, Tryd.ntmps10
  go_wp2_with (go_at_call 11; (with_reducible refine (first_c _ (Lib.hid (HL.out.plus (by repeat' (first | exact Plus.refl _ | refine Plus.alloc ?_ _ | refine Plus.plus ?_ _ | refine Plus.drew ?_ | refine Plus.drewN ?_ _))))).mono ?_); rintro e w1 ⟨rfl, ⟨y0, rfl⟩⟩)
  go_loop [7, 8] (fun s7 s8 => InRel zs s7 s8) (fun _ s8 => ((q : Int) - intOf s8).toNat)
  case atStart => exact ⟨0, by omega, rfl, rfl, rfl⟩
  case round =>
    obtain ⟨k, hk, rfl, rfl, hbd⟩ := hrel
    have HBD := Lib.hid hbd
    clear hbd
    obtain ⟨bb, hbb⟩ : ∃ bb, (zs.take k).any isEnd = bb := ⟨_, rfl⟩
    have HBB := Lib.hid hbb
    rw [hbb]
    clear hbb
    by_cases hlt : k < q
    · have hlt' : k < zs.length := by have := hlen3.out; omega
      obtain ⟨g, o, rfl, hg, hat⟩ := hc.out.rd.at_ hlt'
      have hcell := hat k hlt'
      have hadd := add_addr g o k
      have I0 : Old g w := ⟨hg⟩
      obtain ⟨x, hx⟩ : ∃ x, zs.getD k 0 = x := ⟨_, rfl⟩
      have HNX := Lib.hid (any_next (p := isEnd) hlt')
      have HNB := Lib.hid (any_next (p := inB) hlt')
      rw [hx] at hcell
      have HX := Lib.hid hx
      have HAT := Lib.hid hat
      clear hat hx
      have hgx : inB x = false := by
        have h := List.any_eq_false.1 HG.out x (by rw [← HX.out]; exact getD_mem hlt')
        simpa using h
      have HGX := Lib.hid hgx
      have t1 : ((x : Int) == 42) = false := by simp [inB] at hgx; simp; omega
      have t2 : ((x : Int) == 8232) = false := by simp [inB] at hgx; simp; omega
      have t3 : ((x : Int) == 8233) = false := by simp [inB] at hgx; simp; omega
      clear hgx
      have HN2 : Hid ((zs.take (k + 1)).any inB = false) := Lib.hid (by rw [HNB.out, HBD.out, HX.out, HGX.out]; rfl)
      cases bb
      · have hcs : ((x : Int) == 10) = true ∧ isEnd x = true ∨ ((x : Int) == 10) = false ∧ ((x : Int) == 13) = true ∧ isEnd x = true ∨ ((x : Int) == 10) = false ∧ ((x : Int) == 13) = false ∧ isEnd x = false := by
          unfold isEnd
          simp
          omega
        rcases hcs with ⟨t4, p⟩ | ⟨t4, t5, p⟩ | ⟨t4, t5, p⟩
        all_goals
          have HN := Lib.hid (HNX.out.trans (by rw [HBB.out, HX.out, p]))
          clear p
          go_wp2_with fail
          go_round
          case rel => exact ⟨k + 1, hlt', by rw [show ((k + 1 : Nat) : Int) = (k : Int) + 1 by omega], by rw [HN.out]; rfl, HN2.out⟩
          case measure => simp [intOf]; omega
      · have HN : Hid ((zs.take (k + 1)).any isEnd = true) := Lib.hid (by rw [HNX.out, HBB.out]; rfl)
        go_wp2_with fail
        go_round
        case rel => exact ⟨k + 1, hlt', by rw [show ((k + 1 : Nat) : Int) = (k : Int) + 1 by omega], by rw [HN.out], HN2.out⟩
        case measure => simp [intOf]; omega
    · obtain rfl : k = q := by have := hlen3.out; omega
      obtain rfl : bb = true := by
        have := HBB.out
        rw [hlen3.out, List.take_length, HE.out] at this
        exact this.symm
      have NBT : Hid (Ar .u16 65536 (((plus w y0).alloc (.cells #[.int .u16 32] 40)).alloc (.cells #[.int .u16 10] 40)) (some ⟨w.heap.size + y0.blocks.length + 1, 0, none⟩) [10] 1 1) := Lib.hid (ar_lit ((plus w y0).alloc (.cells #[.int .u16 32] 40)) 10 10 (by omega) (by decide) _ (by simp [go_sem]) 40)
      go_wp2_with (first | (at_builtin; refine wpList_append_rd (by rfl) _ _ 25 rfl (((plus w y0).alloc (.cells #[.int .u16 32] 40)).alloc (.cells #[.int .u16 10] 40)).heap.size 40 i0 (.int .u16 0) 2 .u16 Tryd.underlying25 hi hz0 hz1 hz2 (by decide) _ ([32, 47, 42] ++ zs) [42, 47] rfl (own_alloc HO1.out _) _ _ _ rfl rfl (rd_lit2 (plus (((plus w y0).alloc (.cells #[.int .u16 32] 40)).alloc (.cells #[.int .u16 10] 40)) z1) _ (by simp [go_sem]) 40) (by (try simp); unfold maxLen; omega) (by (try simp); omega) (by simp [go_sem] <;> omega) ?_; intro v2 w2 hown2 hgr2; obtain ⟨z2, rfl⟩ := below_rd (own_alloc HO1.out _) (show Plus (((plus w y0).alloc (.cells #[.int .u16 32] 40)).alloc (.cells #[.int .u16 10] 40)) _ from (by repeat' (first | exact Plus.refl _ | refine Plus.alloc ?_ _ | refine Plus.plus ?_ _ | refine Plus.drew ?_ | refine Plus.drewN ?_ _))) hgr2; have HO2 : Hid ((plus (((plus w y0).alloc (.cells #[.int .u16 32] 40)).alloc (.cells #[.int .u16 10] 40)) z2).ownsRow (((plus w y0).alloc (.cells #[.int .u16 32] 40)).alloc (.cells #[.int .u16 10] 40)).heap.size 40 1 v2 (([32, 47, 42] ++ zs) ++ [42, 47]).length (vals .u16 (([32, 47, 42] ++ zs) ++ [42, 47]))) := Lib.hid (own_cat hown2); clear hown2 hgr2) | (at_builtin; refine wpList_append_rd (by rfl) _ _ 25 rfl (((plus w y0).alloc (.cells #[.int .u16 32] 40)).alloc (.cells #[.int .u16 10] 40)).heap.size 40 i0 (.int .u16 0) 2 .u16 Tryd.underlying25 hi hz0 hz1 hz2 (by decide) _ [32, 47, 42] zs rfl (own_lit3 (((plus w y0).alloc (.cells #[.int .u16 32] 40)).alloc (.cells #[.int .u16 10] 40)) _ (by simp [go_sem])) _ _ _ rfl hlen3.out (hc.out.rd.plus (by repeat' (first | exact Plus.refl _ | refine Plus.alloc ?_ _ | refine Plus.plus ?_ _ | refine Plus.drew ?_ | refine Plus.drewN ?_ _))) (by (try simp); unfold maxLen; omega) (by (try simp); omega) (by simp [go_sem] <;> omega) ?_; intro v1 w1 hown1 hgr1; obtain ⟨z1, rfl⟩ := below_rd (own_lit3 (((plus w y0).alloc (.cells #[.int .u16 32] 40)).alloc (.cells #[.int .u16 10] 40)) _ (by simp [go_sem])) (show Plus (((plus w y0).alloc (.cells #[.int .u16 32] 40)).alloc (.cells #[.int .u16 10] 40)) _ from (by repeat' (first | exact Plus.refl _ | refine Plus.alloc ?_ _ | refine Plus.plus ?_ _ | refine Plus.drew ?_ | refine Plus.drewN ?_ _))) hgr1; have HO1 : Hid ((plus (((plus w y0).alloc (.cells #[.int .u16 32] 40)).alloc (.cells #[.int .u16 10] 40)) z1).ownsRow (((plus w y0).alloc (.cells #[.int .u16 32] 40)).alloc (.cells #[.int .u16 10] 40)).heap.size 40 1 v1 ([32, 47, 42] ++ zs).length (vals .u16 ([32, 47, 42] ++ zs))) := Lib.hid (own_cat hown1); clear hown1 hgr1))
      obtain ⟨C2, dd2, rfl, r1, r2, r3⟩ := rd_of_own HO2.out
      have hbx : ∀ x ∈ (([32, 47, 42] ++ zs) ++ [42, 47]), x < 65536 := fun x hx => by
        simp only [List.mem_append, List.mem_cons, List.not_mem_nil, or_false] at hx
        rcases hx with ((rfl | rfl | rfl) | h) | (rfl | rfl)
        · decide
        · decide
        · decide
        · exact hc.out.bd x h
        · decide
        · decide
      have NR : Hid (Ar .u16 65536 _ C2 (([32, 47, 42] ++ zs) ++ [42, 47]) ((([32, 47, 42] ++ zs) ++ [42, 47])).length dd2) := Lib.hid ⟨r3, rfl, r1, r2, hbx⟩
      clear r1 r2 r3 hbx
      obtain ⟨ql, hql⟩ : ∃ ql, ((([32, 47, 42] ++ zs) ++ [42, 47])).length = ql := ⟨_, rfl⟩
      have HQL := Lib.hid hql
      have hqb : ql ≤ 1005 := by rw [← hql]; simp; omega
      have hqa : 5 ≤ ql := by rw [← hql]; simp
      rw [hql] at NR ⊢
      clear hql HO2
      refine (tokR_c _ xs _ _ _ (ha.out.plus (by repeat' (first | exact Plus.refl _ | refine Plus.alloc ?_ _ | refine Plus.plus ?_ _ | refine Plus.drew ?_ | refine Plus.drewN ?_ _))) (by omega) (HL.out.plus (by repeat' (first | exact Plus.refl _ | refine Plus.alloc ?_ _ | refine Plus.plus ?_ _ | refine Plus.drew ?_ | refine Plus.drewN ?_ _)))).mono ?_
      rintro e w1 ⟨B1, d1, rs1, rfl, m1, k1, j1, R1, t1, ⟨y1, rfl⟩⟩
      rw [T1.out] at m1 ⊢
      dsimp only at m1 ⊢
      have M1 := Lib.hid m1
      have RR1 := Lib.hid R1
      have TT1 := Lib.hid t1
      clear m1 R1 t1
      go_wp2_with fail
      refine (copy_c _ xs _ _ _ (ha.out.plus (by repeat' (first | exact Plus.refl _ | refine Plus.alloc ?_ _ | refine Plus.plus ?_ _ | refine Plus.drew ?_ | refine Plus.drewN ?_ _))) (by omega)).mono ?_
      rintro e w1 ⟨vv, rfl, ho, ⟨z3, rfl⟩⟩
      have HO3 := Lib.hid ho
      clear ho
      go_wp2_with (first | (at_builtin; refine wpList_append_rd (by rfl) _ _ 25 rfl (plus (plus (((plus w y0).alloc (.cells #[.int .u16 32] 40)).alloc (.cells #[.int .u16 10] 40)) z2) y1).heap.size 40 i0 (.int .u16 0) 2 .u16 Tryd.underlying25 hi hz0 hz1 hz2 (by decide) _ (xs ++ [10]) ys rfl HO4.out _ _ _ rfl hlen2.out (hb.out.rd.plus (by repeat' (first | exact Plus.refl _ | refine Plus.alloc ?_ _ | refine Plus.plus ?_ _ | refine Plus.drew ?_ | refine Plus.drewN ?_ _))) (by (try simp); unfold maxLen; omega) (by (try simp); omega) (by simp [go_sem] <;> omega) ?_; intro v5 w5 hown5 hgr5; obtain ⟨z5, rfl⟩ := below_rd HO4.out (show Plus (plus (plus (((plus w y0).alloc (.cells #[.int .u16 32] 40)).alloc (.cells #[.int .u16 10] 40)) z2) y1) _ from (by repeat' (first | exact Plus.refl _ | refine Plus.alloc ?_ _ | refine Plus.plus ?_ _ | refine Plus.drew ?_ | refine Plus.drewN ?_ _))) hgr5; have HO5 : Hid ((plus (plus (plus (((plus w y0).alloc (.cells #[.int .u16 32] 40)).alloc (.cells #[.int .u16 10] 40)) z2) y1) z5).ownsRow (plus (plus (((plus w y0).alloc (.cells #[.int .u16 32] 40)).alloc (.cells #[.int .u16 10] 40)) z2) y1).heap.size 40 1 v5 ((xs ++ [10]) ++ ys).length (vals .u16 ((xs ++ [10]) ++ ys))) := Lib.hid (own_cat hown5); clear hown5 hgr5) | (at_builtin; refine wpList_append_rd (by rfl) _ _ 25 rfl (plus (plus (((plus w y0).alloc (.cells #[.int .u16 32] 40)).alloc (.cells #[.int .u16 10] 40)) z2) y1).heap.size 40 i0 (.int .u16 0) 2 .u16 Tryd.underlying25 hi hz0 hz1 hz2 (by decide) _ xs [10] rfl HO3.out _ _ _ rfl rfl (NBT.out.rd.plus (by repeat' (first | exact Plus.refl _ | refine Plus.alloc ?_ _ | refine Plus.plus ?_ _ | refine Plus.drew ?_ | refine Plus.drewN ?_ _))) (by (try simp); unfold maxLen; omega) (by (try simp); omega) (by simp [go_sem] <;> omega) ?_; intro v4 w4 hown4 hgr4; obtain ⟨z4, rfl⟩ := below_rd HO3.out (show Plus (plus (plus (((plus w y0).alloc (.cells #[.int .u16 32] 40)).alloc (.cells #[.int .u16 10] 40)) z2) y1) _ from (by repeat' (first | exact Plus.refl _ | refine Plus.alloc ?_ _ | refine Plus.plus ?_ _ | refine Plus.drew ?_ | refine Plus.drewN ?_ _))) hgr4; have HO4 : Hid ((plus (plus (plus (((plus w y0).alloc (.cells #[.int .u16 32] 40)).alloc (.cells #[.int .u16 10] 40)) z2) y1) z4).ownsRow (plus (plus (((plus w y0).alloc (.cells #[.int .u16 32] 40)).alloc (.cells #[.int .u16 10] 40)) z2) y1).heap.size 40 1 v4 (xs ++ [10]).length (vals .u16 (xs ++ [10]))) := Lib.hid (own_cat hown4); clear hown4 hgr4))
      obtain ⟨C5, dd5, rfl, r1, r2, r3⟩ := rd_of_own HO5.out
      have hbx : ∀ x ∈ ((xs ++ [10]) ++ ys), x < 65536 := fun x hx => by
        simp only [List.mem_append, List.mem_cons, List.not_mem_nil, or_false] at hx
        rcases hx with (h | rfl) | h
        · exact ha.out.bd x h
        · decide
        · exact hb.out.bd x h
      have NB5 : Hid (Ar .u16 65536 _ C5 ((xs ++ [10]) ++ ys) (((xs ++ [10]) ++ ys)).length dd5) := Lib.hid ⟨r3, rfl, r1, r2, hbx⟩
      clear r1 r2 r3 hbx
      refine (tokR_c C5 ((xs ++ [10]) ++ ys) _ dd5 _ NB5.out (by simp; omega) (HL.out.plus (by repeat' (first | exact Plus.refl _ | refine Plus.alloc ?_ _ | refine Plus.plus ?_ _ | refine Plus.drew ?_ | refine Plus.drewN ?_ _)))).mono ?_
      rintro e w1 ⟨B2, d2, rs2, rfl, m2, k2, j2, R2, t2, ⟨y2, rfl⟩⟩
      have M2 := Lib.hid m2
      have RR2 := Lib.hid R2
      have TT2 := Lib.hid t2
      clear m2 R2 t2
      go_wp2_with fail
      refine (copy_c _ xs _ _ _ (ha.out.plus (by repeat' (first | exact Plus.refl _ | refine Plus.alloc ?_ _ | refine Plus.plus ?_ _ | refine Plus.drew ?_ | refine Plus.drewN ?_ _))) (by omega)).mono ?_
      rintro e w1 ⟨vv, rfl, ho, ⟨z6, rfl⟩⟩
      have HO6 := Lib.hid ho
      clear ho
      have hqx : ((([32, 47, 42] ++ zs) ++ [42, 47])).length ≤ 1005 := by rw [HQL.out]; exact hqb
      obtain ⟨rm, hrm⟩ : ∃ rm, (([32, 47, 42] ++ zs) ++ [42, 47]) = rm := ⟨_, rfl⟩
      rw [hrm] at NR hqx
      have HRM := Lib.hid hrm
      have HNRL := Lib.hid NR.out.len
      go_wp2_with (first | (at_builtin; refine wpList_append_rd (by rfl) _ _ 25 rfl (plus (plus (plus (plus (((plus w y0).alloc (.cells #[.int .u16 32] 40)).alloc (.cells #[.int .u16 10] 40)) z2) y1) z5) y2).heap.size 40 i0 (.int .u16 0) 2 .u16 Tryd.underlying25 hi hz0 hz1 hz2 (by decide) _ (xs ++ rm) ys rfl HO7.out _ _ _ rfl hlen2.out (hb.out.rd.plus (by repeat' (first | exact Plus.refl _ | refine Plus.alloc ?_ _ | refine Plus.plus ?_ _ | refine Plus.drew ?_ | refine Plus.drewN ?_ _))) (by (try simp); unfold maxLen; omega) (by (try simp); omega) (by simp [go_sem] <;> omega) ?_; intro v8 w8 hown8 hgr8; obtain ⟨z8, rfl⟩ := below_rd HO7.out (show Plus (plus (plus (plus (plus (((plus w y0).alloc (.cells #[.int .u16 32] 40)).alloc (.cells #[.int .u16 10] 40)) z2) y1) z5) y2) _ from (by repeat' (first | exact Plus.refl _ | refine Plus.alloc ?_ _ | refine Plus.plus ?_ _ | refine Plus.drew ?_ | refine Plus.drewN ?_ _))) hgr8; have HO8 : Hid ((plus (plus (plus (plus (plus (((plus w y0).alloc (.cells #[.int .u16 32] 40)).alloc (.cells #[.int .u16 10] 40)) z2) y1) z5) y2) z8).ownsRow (plus (plus (plus (plus (((plus w y0).alloc (.cells #[.int .u16 32] 40)).alloc (.cells #[.int .u16 10] 40)) z2) y1) z5) y2).heap.size 40 1 v8 ((xs ++ rm) ++ ys).length (vals .u16 ((xs ++ rm) ++ ys))) := Lib.hid (own_cat hown8); clear hown8 hgr8) | (at_builtin; refine wpList_append_rd (by rfl) _ _ 25 rfl (plus (plus (plus (plus (((plus w y0).alloc (.cells #[.int .u16 32] 40)).alloc (.cells #[.int .u16 10] 40)) z2) y1) z5) y2).heap.size 40 i0 (.int .u16 0) 2 .u16 Tryd.underlying25 hi hz0 hz1 hz2 (by decide) _ xs rm rfl HO6.out _ _ _ rfl HNRL.out (NR.out.rd.plus (by repeat' (first | exact Plus.refl _ | refine Plus.alloc ?_ _ | refine Plus.plus ?_ _ | refine Plus.drew ?_ | refine Plus.drewN ?_ _))) (by (try simp); unfold maxLen; omega) (by (try simp); omega) (by simp [go_sem] <;> omega) ?_; intro v7 w7 hown7 hgr7; obtain ⟨z7, rfl⟩ := below_rd HO6.out (show Plus (plus (plus (plus (plus (((plus w y0).alloc (.cells #[.int .u16 32] 40)).alloc (.cells #[.int .u16 10] 40)) z2) y1) z5) y2) _ from (by repeat' (first | exact Plus.refl _ | refine Plus.alloc ?_ _ | refine Plus.plus ?_ _ | refine Plus.drew ?_ | refine Plus.drewN ?_ _))) hgr7; have HO7 : Hid ((plus (plus (plus (plus (plus (((plus w y0).alloc (.cells #[.int .u16 32] 40)).alloc (.cells #[.int .u16 10] 40)) z2) y1) z5) y2) z7).ownsRow (plus (plus (plus (plus (((plus w y0).alloc (.cells #[.int .u16 32] 40)).alloc (.cells #[.int .u16 10] 40)) z2) y1) z5) y2).heap.size 40 1 v7 (xs ++ rm).length (vals .u16 (xs ++ rm))) := Lib.hid (own_cat hown7); clear hown7 hgr7))
      obtain ⟨C8, dd8, rfl, r1, r2, r3⟩ := rd_of_own HO8.out
      have hbx : ∀ x ∈ ((xs ++ rm) ++ ys), x < 65536 := fun x hx => by
        simp only [List.mem_append] at hx
        rcases hx with (h | h) | h
        · exact ha.out.bd x h
        · exact NR.out.bd x h
        · exact hb.out.bd x h
      have NB8 : Hid (Ar .u16 65536 _ C8 ((xs ++ rm) ++ ys) (((xs ++ rm) ++ ys)).length dd8) := Lib.hid ⟨r3, rfl, r1, r2, hbx⟩
      clear r1 r2 r3 hbx
      clear hrm
      refine (tokR_c C8 ((xs ++ rm) ++ ys) _ dd8 _ NB8.out (by simp; omega) (HL.out.plus (by repeat' (first | exact Plus.refl _ | refine Plus.alloc ?_ _ | refine Plus.plus ?_ _ | refine Plus.drew ?_ | refine Plus.drewN ?_ _)))).mono ?_
      rintro e w1 ⟨B3, d3, rs3, rfl, m3, k3, j3, R3, t3, ⟨y3, rfl⟩⟩
      have M3 := Lib.hid m3
      have RR3 := Lib.hid R3
      have TT3 := Lib.hid t3
      clear m3 R3 t3
      go_wp2_with fail
      go_loop [20, 21] (fun s20 s21 => OpRel xs s20 s21) (fun _ s21 => ((n : Int) - intOf s21).toNat)
      case atStart => exact ⟨0, .inl rfl, rfl, rfl⟩
      case round =>
        obtain ⟨k, hk, rfl, rfl⟩ := hrel
        obtain ⟨bb, hbb⟩ : ∃ bb, opK xs k = bb := ⟨_, rfl⟩
        have HBB := Lib.hid hbb
        rw [hbb]
        clear hbb
        have hkn : k ≤ 1000 := by omega
        by_cases hlt : k + 1 < n
        · have hlt' : k < xs.length := by have := hlen.out; omega
          have hlt2 : k + 1 < xs.length := by have := hlen.out; omega
          obtain ⟨g, o, rfl, hg, hat⟩ := ha.out.rd.at_ hlt'
          have hcell := hat k hlt'
          have hcell2 := hat (k + 1) hlt2
          have hadd := add_addr g o k
          have hadd2 := add_addr g o (k + 1)
          have I0 : Old g w := ⟨hg⟩
          obtain ⟨x, hx⟩ : ∃ x, xs.getD k 0 = x := ⟨_, rfl⟩
          obtain ⟨y, hy⟩ : ∃ y, xs.getD (k + 1) 0 = y := ⟨_, rfl⟩
          have HNX : Hid (opK xs (k + 1) = (bb || (x == 47 && y == 47))) := Lib.hid (by rw [← HBB.out, ← hx, ← hy]; rfl)
          rw [hx] at hcell
          rw [hy] at hcell2
          have hkz : ((k + 1 : Nat) : Int) = (k : Int) + 1 := by omega
          have htn : ((k : Int) + 1).toNat = k + 1 := by omega
          have HAT := Lib.hid hat
          clear hat hx hy
          cases bb
          · have hcs : ((x : Int) == 47) = false ∧ (x == 47 && y == 47) = false ∨ ((x : Int) == 47) = true ∧ ((y : Int) == 47) = false ∧ (x == 47 && y == 47) = false ∨ ((x : Int) == 47) = true ∧ ((y : Int) == 47) = true ∧ (x == 47 && y == 47) = true := by
              simp
              omega
            rcases hcs with ⟨t4, p⟩ | ⟨t4, t5, p⟩ | ⟨t4, t5, p⟩
            all_goals
              have HN := Lib.hid (HNX.out.trans (by rw [p]))
              clear p
              go_wp2_with fail
              go_round
              case rel => exact ⟨k + 1, .inr hlt2, by rw [show ((k + 1 : Nat) : Int) = (k : Int) + 1 by omega], by rw [HN.out]; rfl⟩
              case measure => simp [intOf]; omega
          · have HN : Hid (opK xs (k + 1) = true) := Lib.hid (by rw [HNX.out]; rfl)
            go_wp2_with fail
            go_round
            case rel => exact ⟨k + 1, .inr hlt2, by rw [show ((k + 1 : Nat) : Int) = (k : Int) + 1 by omega], by rw [HN.out]⟩
            case measure => simp [intOf]; omega
        · have hkb : bb = true := by
            rw [← HBB.out]
            exact HOP.out k (by have := hlen.out; omega) hk
          subst hkb
          go_wp2_with (first | (go_at_call 11; (with_reducible refine (first_c _ (Lib.hid (HL.out.plus (by repeat' (first | exact Plus.refl _ | refine Plus.alloc ?_ _ | refine Plus.plus ?_ _ | refine Plus.drew ?_ | refine Plus.drewN ?_ _))))).mono ?_); rintro e w1 ⟨rfl, ⟨y5, rfl⟩⟩))
          go_ret
          exact ⟨rfl, (by repeat' (first | exact Plus.refl _ | refine Plus.alloc ?_ _ | refine Plus.plus ?_ _ | refine Plus.drew ?_ | refine Plus.drewN ?_ _))⟩
end Go.Proofs.YtaigkjffglbknaaDoor
