/- The walk of LexQuotes. -/
import Derived.Test.YtaigkjffglbknaaDoorQ1
namespace Go.Proofs.YtaigkjffglbknaaDoor
open Go.RowKit


theorem below_rd {W W2 w1 : World} {t n : Nat} {v : Value} {l : List Value} {z : Nat} (h0 : W2.ownsRow W.heap.size t z v n l) (hp : Plus W W2) (hg : W2.grownBy w1 v.ownBlock) : Plus W w1 := by
  refine Plus.of_below (hp.below.grown hg hp.below.size (fun j hj => ?_))
  rcases h0.2 with ⟨rfl, _⟩ | ⟨g, cap, cur, rfl, hbg, _⟩
  · cases hj
  · injection hj with hj
    subst hj
    exact hbg
def QlRel (q : Nat) (xs : List Nat) (s6 s7 : Value) : Prop := ∃ k : Nat, k ≤ xs.length ∧ s7 = .int .i64 k ∧ s6 = .bool ((xs.take k).all (plQ q))
theorem pl_next {q : Nat} {xs : List Nat} {k : Nat} (hk : k < xs.length) : (xs.take (k + 1)).all (plQ q) = ((xs.take k).all (plQ q) && plQ q (xs.getD k 0)) := by
  have e : xs.getD k 0 = xs[k] := by rw [List.getD_eq_getElem?_getD, List.getElem?_eq_getElem hk]; rfl
  rw [List.take_succ_eq_append_getElem hk, List.all_append, e]
  simp

set_option maxRecDepth 100000 in
set_option maxHeartbeats 16000000 in
theorem quotes_s (A : Option Addr) (xs : List Nat) (n c : Nat) (w : World) (HL : Hid (Lai w)) (ha : Hid (Ar .u16 65536 w A xs n c)) (hn : n ≤ 4000) (d0 : decide ((4000 : Int) < (n : Int)) = false) :
    Calls Tryd.prog 9 #[.slice A n c, .bool false] w fun e w' => e = .returned (.bool true) ∧ Plus w w' := by
  obtain ⟨i0, hi, hz0, hz1, hz2⟩ := info_parts infoU16
  have hlen := Lib.hid ha.out.len
  have hbd := Lib.hid ha.out.bd
  have hxl : xs.length ≤ 4000 := by have := ha.out.len; omega
  go_enter Tryd.func9, Tryd.ntmps9
  go_wp2_with (go_at_call 11; (with_reducible refine (first_c _ (Lib.hid (HL.out.plus (by repeat' (first | exact Plus.refl _ | refine Plus.alloc ?_ _ | refine Plus.plus ?_ _ | refine Plus.drew ?_ | refine Plus.drewN ?_ _))))).mono ?_); rintro e w1 ⟨rfl, ⟨y0, rfl⟩⟩)
  go_loop [6, 7] (fun s6 s7 => QlRel 39 xs s6 s7) (fun _ s7 => ((n : Int) - intOf s7).toNat)
  case atStart => exact ⟨0, by omega, rfl, rfl⟩
  case round =>
    obtain ⟨k, hk, rfl, rfl⟩ := hrel
    obtain ⟨bb, hbb⟩ : ∃ bb, (xs.take k).all (plQ 39) = bb := ⟨_, rfl⟩
    have HBB := Lib.hid hbb
    rw [hbb]
    clear hbb
    by_cases hlt : k < n
    · have hlt' : k < xs.length := by have := hlen.out; omega
      obtain ⟨g, o, rfl, hg, hat⟩ := ha.out.rd.at_ hlt'
      have hcell := hat k hlt'
      have hadd := add_addr g o k
      have I0 : Old g w := ⟨hg⟩
      obtain ⟨x, hx⟩ : ∃ x, xs.getD k 0 = x := ⟨_, rfl⟩
      have HNX := Lib.hid (pl_next (q := 39) hlt')
      rw [hx] at hcell
      have HX := Lib.hid hx
      have HAT := Lib.hid hat
      clear hat hx
      cases bb
      · have HN : Hid ((xs.take (k + 1)).all (plQ 39) = false) := Lib.hid (by rw [HNX.out, HBB.out]; rfl)
        go_wp2_with fail
        go_round
        case rel => exact ⟨k + 1, hlt', by rw [show ((k + 1 : Nat) : Int) = (k : Int) + 1 by omega], by rw [HN.out]⟩
        case measure => simp [intOf]; omega
      · have hcs : ((x : Int) != 39) = false ∧ plQ 39 x = false ∨ ((x : Int) != 39) = true ∧ ((x : Int) != 10) = false ∧ plQ 39 x = false ∨ ((x : Int) != 39) = true ∧ ((x : Int) != 10) = true ∧ ((x : Int) != 13) = false ∧ plQ 39 x = false ∨ ((x : Int) != 39) = true ∧ ((x : Int) != 10) = true ∧ ((x : Int) != 13) = true ∧ ((x : Int) != 92) = false ∧ plQ 39 x = false ∨ ((x : Int) != 39) = true ∧ ((x : Int) != 10) = true ∧ ((x : Int) != 13) = true ∧ ((x : Int) != 92) = true ∧ plQ 39 x = true := by
          unfold plQ
          simp
          omega
        rcases hcs with ⟨t1, p⟩ | ⟨t1, t2, p⟩ | ⟨t1, t2, t3, p⟩ | ⟨t1, t2, t3, t4, p⟩ | ⟨t1, t2, t3, t4, p⟩
        all_goals
          have HN := Lib.hid (HNX.out.trans (by rw [HBB.out, HX.out, p]))
          clear p
          go_wp2_with fail
          go_round
          case rel => exact ⟨k + 1, hlt', by rw [show ((k + 1 : Nat) : Int) = (k : Int) + 1 by omega], by rw [HN.out]; rfl⟩
          case measure => simp [intOf]; omega
    · obtain rfl : k = n := by have := hlen.out; omega
      have HAL : Hid (xs.all (plQ 39) = bb) := Lib.hid (by rw [← HBB.out, hlen.out, List.take_length])
      cases bb
      · go_wp2_with (go_at_call 11; (with_reducible refine (first_c _ (Lib.hid (HL.out.plus (by repeat' (first | exact Plus.refl _ | refine Plus.alloc ?_ _ | refine Plus.plus ?_ _ | refine Plus.drew ?_ | refine Plus.drewN ?_ _))))).mono ?_); rintro e w1 ⟨rfl, ⟨y1, rfl⟩⟩)
        go_ret
        exact ⟨rfl, (by repeat' (first | exact Plus.refl _ | refine Plus.alloc ?_ _ | refine Plus.plus ?_ _ | refine Plus.drew ?_ | refine Plus.drewN ?_ _))⟩
      · have T1 := Lib.hid (tok_quo 39 (by decide) xs HAL.out hxl)
        have T2 := Lib.hid (tok_quo0 39 (by decide) xs HAL.out hxl)
        go_wp2_with (first | (at_builtin; refine wpList_append_own _ rfl _ _ 25 rfl (plus w y0).heap.size 40 i0 (.int .u16 0) 1 2 Tryd.underlying25 hi hz0 hz1 hz2 rfl (by decide) _ _ _ rfl (own_alloc HO1.out _) ⟨w.heap.size + y0.blocks.length + z1.blocks.length, 0, none⟩ 1 1 [.int .u16 39] rfl rfl (news_at' _ _ _ _ (by simp [go_sem])) (one_u16 [39]) (by simp; unfold maxLen; omega) (by simp; omega) (by simp [go_sem] <;> omega) ?_; intro v2 w2 hown2 hgr2 _; obtain ⟨z2, rfl⟩ := Plus.of_below (below_own HO1.out hgr2 (Plus.below (w := plus w y0) (by repeat' (first | exact Plus.refl _ | refine Plus.alloc ?_ _ | refine Plus.plus ?_ _ | refine Plus.drew ?_ | refine Plus.drewN ?_ _))) (by simp [go_sem])); have HO2 : Hid ((plus (plus w y0) z2).ownsRow (plus w y0).heap.size 40 1 v2 (39 :: (xs ++ [39])).length (vals .u16 (39 :: (xs ++ [39])))) := Lib.hid (by have e := hown2; rw [show (39 :: (xs ++ [39]) : List Nat) = (39 :: xs) ++ [39] by simp, vals_app, List.length_append]; exact e); clear hown2 hgr2) | (at_builtin; refine wpList_append_rd (by rfl) _ _ 25 rfl (plus w y0).heap.size 40 i0 (.int .u16 0) 2 .u16 Tryd.underlying25 hi hz0 hz1 hz2 (by decide) _ [39] xs rfl (own_lit (plus w y0) _ 39 _ (by omega) (by simp [go_sem])) _ _ _ rfl hlen.out (ha.out.rd.plus (by repeat' (first | exact Plus.refl _ | refine Plus.alloc ?_ _ | refine Plus.plus ?_ _ | refine Plus.drew ?_ | refine Plus.drewN ?_ _))) (by simp; unfold maxLen; omega) (by simp; omega) (by simp [go_sem]) ?_; intro vv w1 hown1 hgr1; obtain ⟨z1, rfl⟩ := below_rd (own_lit (plus w y0) _ 39 _ (by omega) (by simp [go_sem])) ((Plus.refl _).alloc _) hgr1; have HO1 : Hid ((plus (plus w y0) z1).ownsRow (plus w y0).heap.size 40 1 vv (39 :: xs).length (vals .u16 (39 :: xs))) := Lib.hid (by rw [List.length_cons, Nat.add_comm]; exact hown1); clear hown1 hgr1))
        obtain ⟨C, dd, rfl, r1, r2, r3⟩ := rd_of_own HO2.out
        have hb2 : ∀ x ∈ 39 :: (xs ++ [39]), x < 65536 := fun x hx => by
          simp at hx
          rcases hx with rfl | h | rfl
          · decide
          · exact hbd.out x h
          · decide
        have NB : Hid (Ar .u16 65536 _ C (39 :: (xs ++ [39])) (39 :: (xs ++ [39])).length dd) := Lib.hid ⟨r3, rfl, r1, r2, hb2⟩
        clear r1 r2 r3 hb2
        refine (tokR_c C (39 :: (xs ++ [39])) _ dd _ NB.out (by simp; omega) (HL.out.plus (by repeat' (first | exact Plus.refl _ | refine Plus.alloc ?_ _ | refine Plus.plus ?_ _ | refine Plus.drew ?_ | refine Plus.drewN ?_ _)))).mono ?_
        rintro e w1 ⟨B1, d1, rs, rfl, m1, k1, j1, R1, t1, ⟨y2, rfl⟩⟩
        rw [T1.out] at m1 ⊢
        dsimp only at m1 ⊢
        have l1 : rs.length = 2 := len_of m1
        obtain ⟨g, eB, hg, hc⟩ := R1 (by omega)
        subst eB
        have hr0 : (rs[0]'(by omega)).t = { tk0 with k := 4, s := xs } := el_of m1 (by omega) rfl
        have TS := t1 _ (List.getElem_mem (l := rs) (n := 0) (by omega))
        obtain ⟨r0, h0⟩ : ∃ r0, rs[0]'(by omega) = r0 := ⟨_, rfl⟩
        rw [h0] at hr0 TS
        obtain ⟨tt, As, cs, Am, cm⟩ := r0
        dsimp only at hr0
        subst hr0
        have p0 := row_cell hc (i := 0) (j := 0) (by omega) (by decide)
        have p2 := row_cell hc (i := 0) (j := 2) (by omega) (by decide)
        rw [h0] at p0 p2
        replace p0 : _ = some (Value.int .i64 4) := p0
        replace p2 : _ = some (Value.slice As xs.length cs) := p2
        simp only [Nat.reduceMul, Nat.reduceAdd] at p0 p2
        have HU : Hid (Ar .u16 65536 _ As xs xs.length cs) := Lib.hid TS.str
        clear hc h0 m1 R1 t1 TS k1 j1
        have I1 : Old g _ := ⟨hg⟩
        go_wp2_with (at_builtin; refine wpList_append_rd (by rfl) _ _ 25 rfl (plus (plus (plus w y0) z2) y2).heap.size 40 i0 (.int .u16 0) 2 .u16 Tryd.underlying25 hi hz0 hz1 hz2 (by decide) _ [39] xs rfl (own_lit (plus (plus (plus w y0) z2) y2) _ 39 _ (by omega) (by simp [go_sem])) _ _ _ rfl hlen.out (ha.out.rd.plus (by repeat' (first | exact Plus.refl _ | refine Plus.alloc ?_ _ | refine Plus.plus ?_ _ | refine Plus.drew ?_ | refine Plus.drewN ?_ _))) (by simp; unfold maxLen; omega) (by simp; omega) (by simp [go_sem]) ?_; intro vv w1 hown1 hgr1; obtain ⟨z3, rfl⟩ := below_rd (own_lit (plus (plus (plus w y0) z2) y2) _ 39 _ (by omega) (by simp [go_sem])) ((Plus.refl _).alloc _) hgr1; have HO3 : Hid ((plus (plus (plus (plus w y0) z2) y2) z3).ownsRow (plus (plus (plus w y0) z2) y2).heap.size 40 1 vv (39 :: xs).length (vals .u16 (39 :: xs))) := Lib.hid (by rw [List.length_cons, Nat.add_comm]; exact hown1); clear hown1 hgr1)
        obtain ⟨C3, d3, rfl, r1, r2, r3⟩ := rd_of_own HO3.out
        have hb3 : ∀ x ∈ 39 :: xs, x < 65536 := fun x hx => by
          simp at hx
          rcases hx with rfl | h
          · decide
          · exact hbd.out x h
        have NC : Hid (Ar .u16 65536 _ C3 (39 :: xs) (39 :: xs).length d3) := Lib.hid ⟨r3, rfl, r1, r2, hb3⟩
        clear r1 r2 r3 hb3
        refine (tokR_c C3 (39 :: xs) _ d3 _ NC.out (by simp; omega) (HL.out.plus (by repeat' (first | exact Plus.refl _ | refine Plus.alloc ?_ _ | refine Plus.plus ?_ _ | refine Plus.drew ?_ | refine Plus.drewN ?_ _)))).mono ?_
        rintro e w1 ⟨B3, d4, rs3, rfl, m3, k3, j3, R3, t3, ⟨y4, rfl⟩⟩
        rw [T2.out] at m3 ⊢
        dsimp only at m3 ⊢
        clear m3 k3 j3 R3 t3
        go_wp2_with (first | (go_at_call 11; (with_reducible refine (first_c _ (Lib.hid (HL.out.plus (by repeat' (first | exact Plus.refl _ | refine Plus.alloc ?_ _ | refine Plus.plus ?_ _ | refine Plus.drew ?_ | refine Plus.drewN ?_ _))))).mono ?_); rintro e w1 ⟨rfl, ⟨y5, rfl⟩⟩) | (go_at_call 19; (with_reducible refine (runits_c _ _ xs xs _ _ _ _ _ (HU.out.plus (by repeat' (first | exact Plus.refl _ | refine Plus.alloc ?_ _ | refine Plus.plus ?_ _ | refine Plus.drew ?_ | refine Plus.drewN ?_ _))) (ha.out.plus (by repeat' (first | exact Plus.refl _ | refine Plus.alloc ?_ _ | refine Plus.plus ?_ _ | refine Plus.drew ?_ | refine Plus.drewN ?_ _)))).mono ?_); rintro e w1 ⟨rfl, ⟨y6, rfl⟩⟩; rw [decide_eq_true (rfl : xs = xs)]))
        go_ret
        exact ⟨rfl, (by repeat' (first | exact Plus.refl _ | refine Plus.alloc ?_ _ | refine Plus.plus ?_ _ | refine Plus.drew ?_ | refine Plus.drewN ?_ _))⟩

set_option maxRecDepth 100000 in
set_option maxHeartbeats 16000000 in
theorem quotes_d (A : Option Addr) (xs : List Nat) (n c : Nat) (w : World) (HL : Hid (Lai w)) (ha : Hid (Ar .u16 65536 w A xs n c)) (hn : n ≤ 4000) (d0 : decide ((4000 : Int) < (n : Int)) = false) :
    Calls Tryd.prog 9 #[.slice A n c, .bool true] w fun e w' => e = .returned (.bool true) ∧ Plus w w' := by
  obtain ⟨i0, hi, hz0, hz1, hz2⟩ := info_parts infoU16
  have hlen := Lib.hid ha.out.len
  have hbd := Lib.hid ha.out.bd
  have hxl : xs.length ≤ 4000 := by have := ha.out.len; omega
  go_enter Tryd.func9, Tryd.ntmps9
  go_wp2_with (go_at_call 11; (with_reducible refine (first_c _ (Lib.hid (HL.out.plus (by repeat' (first | exact Plus.refl _ | refine Plus.alloc ?_ _ | refine Plus.plus ?_ _ | refine Plus.drew ?_ | refine Plus.drewN ?_ _))))).mono ?_); rintro e w1 ⟨rfl, ⟨y0, rfl⟩⟩)
  go_loop [6, 7] (fun s6 s7 => QlRel 34 xs s6 s7) (fun _ s7 => ((n : Int) - intOf s7).toNat)
  case atStart => exact ⟨0, by omega, rfl, rfl⟩
  case round =>
    obtain ⟨k, hk, rfl, rfl⟩ := hrel
    obtain ⟨bb, hbb⟩ : ∃ bb, (xs.take k).all (plQ 34) = bb := ⟨_, rfl⟩
    have HBB := Lib.hid hbb
    rw [hbb]
    clear hbb
    by_cases hlt : k < n
    · have hlt' : k < xs.length := by have := hlen.out; omega
      obtain ⟨g, o, rfl, hg, hat⟩ := ha.out.rd.at_ hlt'
      have hcell := hat k hlt'
      have hadd := add_addr g o k
      have I0 : Old g w := ⟨hg⟩
      obtain ⟨x, hx⟩ : ∃ x, xs.getD k 0 = x := ⟨_, rfl⟩
      have HNX := Lib.hid (pl_next (q := 34) hlt')
      rw [hx] at hcell
      have HX := Lib.hid hx
      have HAT := Lib.hid hat
      clear hat hx
      cases bb
      · have HN : Hid ((xs.take (k + 1)).all (plQ 34) = false) := Lib.hid (by rw [HNX.out, HBB.out]; rfl)
        go_wp2_with fail
        go_round
        case rel => exact ⟨k + 1, hlt', by rw [show ((k + 1 : Nat) : Int) = (k : Int) + 1 by omega], by rw [HN.out]⟩
        case measure => simp [intOf]; omega
      · have hcs : ((x : Int) != 34) = false ∧ plQ 34 x = false ∨ ((x : Int) != 34) = true ∧ ((x : Int) != 10) = false ∧ plQ 34 x = false ∨ ((x : Int) != 34) = true ∧ ((x : Int) != 10) = true ∧ ((x : Int) != 13) = false ∧ plQ 34 x = false ∨ ((x : Int) != 34) = true ∧ ((x : Int) != 10) = true ∧ ((x : Int) != 13) = true ∧ ((x : Int) != 92) = false ∧ plQ 34 x = false ∨ ((x : Int) != 34) = true ∧ ((x : Int) != 10) = true ∧ ((x : Int) != 13) = true ∧ ((x : Int) != 92) = true ∧ plQ 34 x = true := by
          unfold plQ
          simp
          omega
        rcases hcs with ⟨t1, p⟩ | ⟨t1, t2, p⟩ | ⟨t1, t2, t3, p⟩ | ⟨t1, t2, t3, t4, p⟩ | ⟨t1, t2, t3, t4, p⟩
        all_goals
          have HN := Lib.hid (HNX.out.trans (by rw [HBB.out, HX.out, p]))
          clear p
          go_wp2_with fail
          go_round
          case rel => exact ⟨k + 1, hlt', by rw [show ((k + 1 : Nat) : Int) = (k : Int) + 1 by omega], by rw [HN.out]; rfl⟩
          case measure => simp [intOf]; omega
    · obtain rfl : k = n := by have := hlen.out; omega
      have HAL : Hid (xs.all (plQ 34) = bb) := Lib.hid (by rw [← HBB.out, hlen.out, List.take_length])
      cases bb
      · go_wp2_with (go_at_call 11; (with_reducible refine (first_c _ (Lib.hid (HL.out.plus (by repeat' (first | exact Plus.refl _ | refine Plus.alloc ?_ _ | refine Plus.plus ?_ _ | refine Plus.drew ?_ | refine Plus.drewN ?_ _))))).mono ?_); rintro e w1 ⟨rfl, ⟨y1, rfl⟩⟩)
        go_ret
        exact ⟨rfl, (by repeat' (first | exact Plus.refl _ | refine Plus.alloc ?_ _ | refine Plus.plus ?_ _ | refine Plus.drew ?_ | refine Plus.drewN ?_ _))⟩
      · have T1 := Lib.hid (tok_quo 34 (by decide) xs HAL.out hxl)
        have T2 := Lib.hid (tok_quo0 34 (by decide) xs HAL.out hxl)
        go_wp2_with (first | (at_builtin; refine wpList_append_own _ rfl _ _ 25 rfl (plus w y0).heap.size 40 i0 (.int .u16 0) 1 2 Tryd.underlying25 hi hz0 hz1 hz2 rfl (by decide) _ _ _ rfl (own_alloc HO1.out _) ⟨w.heap.size + y0.blocks.length + z1.blocks.length, 0, none⟩ 1 1 [.int .u16 34] rfl rfl (news_at' _ _ _ _ (by simp [go_sem])) (one_u16 [34]) (by simp; unfold maxLen; omega) (by simp; omega) (by simp [go_sem] <;> omega) ?_; intro v2 w2 hown2 hgr2 _; obtain ⟨z2, rfl⟩ := Plus.of_below (below_own HO1.out hgr2 (Plus.below (w := plus w y0) (by repeat' (first | exact Plus.refl _ | refine Plus.alloc ?_ _ | refine Plus.plus ?_ _ | refine Plus.drew ?_ | refine Plus.drewN ?_ _))) (by simp [go_sem])); have HO2 : Hid ((plus (plus w y0) z2).ownsRow (plus w y0).heap.size 40 1 v2 (34 :: (xs ++ [34])).length (vals .u16 (34 :: (xs ++ [34])))) := Lib.hid (by have e := hown2; rw [show (34 :: (xs ++ [34]) : List Nat) = (34 :: xs) ++ [34] by simp, vals_app, List.length_append]; exact e); clear hown2 hgr2) | (at_builtin; refine wpList_append_rd (by rfl) _ _ 25 rfl (plus w y0).heap.size 40 i0 (.int .u16 0) 2 .u16 Tryd.underlying25 hi hz0 hz1 hz2 (by decide) _ [34] xs rfl (own_lit (plus w y0) _ 34 _ (by omega) (by simp [go_sem])) _ _ _ rfl hlen.out (ha.out.rd.plus (by repeat' (first | exact Plus.refl _ | refine Plus.alloc ?_ _ | refine Plus.plus ?_ _ | refine Plus.drew ?_ | refine Plus.drewN ?_ _))) (by simp; unfold maxLen; omega) (by simp; omega) (by simp [go_sem]) ?_; intro vv w1 hown1 hgr1; obtain ⟨z1, rfl⟩ := below_rd (own_lit (plus w y0) _ 34 _ (by omega) (by simp [go_sem])) ((Plus.refl _).alloc _) hgr1; have HO1 : Hid ((plus (plus w y0) z1).ownsRow (plus w y0).heap.size 40 1 vv (34 :: xs).length (vals .u16 (34 :: xs))) := Lib.hid (by rw [List.length_cons, Nat.add_comm]; exact hown1); clear hown1 hgr1))
        obtain ⟨C, dd, rfl, r1, r2, r3⟩ := rd_of_own HO2.out
        have hb2 : ∀ x ∈ 34 :: (xs ++ [34]), x < 65536 := fun x hx => by
          simp at hx
          rcases hx with rfl | h | rfl
          · decide
          · exact hbd.out x h
          · decide
        have NB : Hid (Ar .u16 65536 _ C (34 :: (xs ++ [34])) (34 :: (xs ++ [34])).length dd) := Lib.hid ⟨r3, rfl, r1, r2, hb2⟩
        clear r1 r2 r3 hb2
        refine (tokR_c C (34 :: (xs ++ [34])) _ dd _ NB.out (by simp; omega) (HL.out.plus (by repeat' (first | exact Plus.refl _ | refine Plus.alloc ?_ _ | refine Plus.plus ?_ _ | refine Plus.drew ?_ | refine Plus.drewN ?_ _)))).mono ?_
        rintro e w1 ⟨B1, d1, rs, rfl, m1, k1, j1, R1, t1, ⟨y2, rfl⟩⟩
        rw [T1.out] at m1 ⊢
        dsimp only at m1 ⊢
        have l1 : rs.length = 2 := len_of m1
        obtain ⟨g, eB, hg, hc⟩ := R1 (by omega)
        subst eB
        have hr0 : (rs[0]'(by omega)).t = { tk0 with k := 4, s := xs } := el_of m1 (by omega) rfl
        have TS := t1 _ (List.getElem_mem (l := rs) (n := 0) (by omega))
        obtain ⟨r0, h0⟩ : ∃ r0, rs[0]'(by omega) = r0 := ⟨_, rfl⟩
        rw [h0] at hr0 TS
        obtain ⟨tt, As, cs, Am, cm⟩ := r0
        dsimp only at hr0
        subst hr0
        have p0 := row_cell hc (i := 0) (j := 0) (by omega) (by decide)
        have p2 := row_cell hc (i := 0) (j := 2) (by omega) (by decide)
        rw [h0] at p0 p2
        replace p0 : _ = some (Value.int .i64 4) := p0
        replace p2 : _ = some (Value.slice As xs.length cs) := p2
        simp only [Nat.reduceMul, Nat.reduceAdd] at p0 p2
        have HU : Hid (Ar .u16 65536 _ As xs xs.length cs) := Lib.hid TS.str
        clear hc h0 m1 R1 t1 TS k1 j1
        have I1 : Old g _ := ⟨hg⟩
        go_wp2_with (at_builtin; refine wpList_append_rd (by rfl) _ _ 25 rfl (plus (plus (plus w y0) z2) y2).heap.size 40 i0 (.int .u16 0) 2 .u16 Tryd.underlying25 hi hz0 hz1 hz2 (by decide) _ [34] xs rfl (own_lit (plus (plus (plus w y0) z2) y2) _ 34 _ (by omega) (by simp [go_sem])) _ _ _ rfl hlen.out (ha.out.rd.plus (by repeat' (first | exact Plus.refl _ | refine Plus.alloc ?_ _ | refine Plus.plus ?_ _ | refine Plus.drew ?_ | refine Plus.drewN ?_ _))) (by simp; unfold maxLen; omega) (by simp; omega) (by simp [go_sem]) ?_; intro vv w1 hown1 hgr1; obtain ⟨z3, rfl⟩ := below_rd (own_lit (plus (plus (plus w y0) z2) y2) _ 34 _ (by omega) (by simp [go_sem])) ((Plus.refl _).alloc _) hgr1; have HO3 : Hid ((plus (plus (plus (plus w y0) z2) y2) z3).ownsRow (plus (plus (plus w y0) z2) y2).heap.size 40 1 vv (34 :: xs).length (vals .u16 (34 :: xs))) := Lib.hid (by rw [List.length_cons, Nat.add_comm]; exact hown1); clear hown1 hgr1)
        obtain ⟨C3, d3, rfl, r1, r2, r3⟩ := rd_of_own HO3.out
        have hb3 : ∀ x ∈ 34 :: xs, x < 65536 := fun x hx => by
          simp at hx
          rcases hx with rfl | h
          · decide
          · exact hbd.out x h
        have NC : Hid (Ar .u16 65536 _ C3 (34 :: xs) (34 :: xs).length d3) := Lib.hid ⟨r3, rfl, r1, r2, hb3⟩
        clear r1 r2 r3 hb3
        refine (tokR_c C3 (34 :: xs) _ d3 _ NC.out (by simp; omega) (HL.out.plus (by repeat' (first | exact Plus.refl _ | refine Plus.alloc ?_ _ | refine Plus.plus ?_ _ | refine Plus.drew ?_ | refine Plus.drewN ?_ _)))).mono ?_
        rintro e w1 ⟨B3, d4, rs3, rfl, m3, k3, j3, R3, t3, ⟨y4, rfl⟩⟩
        rw [T2.out] at m3 ⊢
        dsimp only at m3 ⊢
        clear m3 k3 j3 R3 t3
        go_wp2_with (first | (go_at_call 11; (with_reducible refine (first_c _ (Lib.hid (HL.out.plus (by repeat' (first | exact Plus.refl _ | refine Plus.alloc ?_ _ | refine Plus.plus ?_ _ | refine Plus.drew ?_ | refine Plus.drewN ?_ _))))).mono ?_); rintro e w1 ⟨rfl, ⟨y5, rfl⟩⟩) | (go_at_call 19; (with_reducible refine (runits_c _ _ xs xs _ _ _ _ _ (HU.out.plus (by repeat' (first | exact Plus.refl _ | refine Plus.alloc ?_ _ | refine Plus.plus ?_ _ | refine Plus.drew ?_ | refine Plus.drewN ?_ _))) (ha.out.plus (by repeat' (first | exact Plus.refl _ | refine Plus.alloc ?_ _ | refine Plus.plus ?_ _ | refine Plus.drew ?_ | refine Plus.drewN ?_ _)))).mono ?_); rintro e w1 ⟨rfl, ⟨y6, rfl⟩⟩; rw [decide_eq_true (rfl : xs = xs)]))
        go_ret
        exact ⟨rfl, (by repeat' (first | exact Plus.refl _ | refine Plus.alloc ?_ _ | refine Plus.plus ?_ _ | refine Plus.drew ?_ | refine Plus.drewN ?_ _))⟩

set_option maxRecDepth 100000 in
set_option maxHeartbeats 4000000 in
theorem quotes_few (A : Option Addr) (n c : Nat) (b : Bool) (w : World) (HL : Hid (Lai w)) (d0 : decide ((4000 : Int) < (n : Int)) = true) :
    Calls Tryd.prog 9 #[.slice A n c, .bool b] w fun e w' => e = .returned (.bool true) ∧ Plus w w' := by
  go_enter Tryd.func9, Tryd.ntmps9
  go_wp2_with (go_at_call 11; (with_reducible refine (first_c _ (Lib.hid (HL.out.plus (by repeat' (first | exact Plus.refl _ | refine Plus.alloc ?_ _ | refine Plus.plus ?_ _ | refine Plus.drew ?_ | refine Plus.drewN ?_ _))))).mono ?_); rintro e w1 ⟨rfl, ⟨y0, rfl⟩⟩)
  go_ret
  exact ⟨rfl, (by repeat' (first | exact Plus.refl _ | refine Plus.alloc ?_ _ | refine Plus.plus ?_ _ | refine Plus.drew ?_ | refine Plus.drewN ?_ _))⟩
theorem quotes_go (A : Option Addr) (xs : List Nat) (n c : Nat) (b : Bool) (w : World) (hL : Lai w) (ha : Ar .u16 65536 w A xs n c) :
    Calls Tryd.prog 9 #[.slice A n c, .bool b] w fun e w' => e = .returned (.bool true) ∧ Plus w w' := by
  by_cases hn : n ≤ 4000
  · have d0 : decide ((4000 : Int) < (n : Int)) = false := by simp; omega
    cases b
    · exact quotes_s A xs n c w (Lib.hid hL) (Lib.hid ha) hn d0
    · exact quotes_d A xs n c w (Lib.hid hL) (Lib.hid ha) hn d0
  · exact quotes_few A n c b w (Lib.hid hL) (by simp; omega)
end Go.Proofs.YtaigkjffglbknaaDoor
