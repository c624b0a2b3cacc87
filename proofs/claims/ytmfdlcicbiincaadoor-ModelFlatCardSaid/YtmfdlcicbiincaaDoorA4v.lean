/- Stores and loads whose rows are their own; the walk of ModelFlat. -/
import Derived.WalkKit
import Derived.WalkSpells
import Derived.WalkLawsBesides
import Derived.Handy
import Derived.Deep.RegionHeld3
import Derived.Deep.DeepCutAuto
import Derived.Deep.QuietTactic
import Derived.BigQuiet
import Derived.Lib.Hide
import Derived.KernelRfl
import Derived.WalkMore
import Derived.Deep.LoopGhost
import Derived.IntWalk
import Derived.Deep.RegionLaw
import Derived.RangeFuncBox
import Derived.Laws.AppendOwn
import Derived.Deep.OwnRows
import Derived.Lib.SliceRun
import Derived.Test.YtmfdlcicbiincaaDoorMF
import Derived.Test.YtmfdlcicbiincaaDoorA4p
namespace Go.Proofs.YtmfdlcicbiincaaDoor
open Go.RowKit


theorem row_one {k : IntKind} {w : World} {B g e : Nat} {x : Int} (hb : B ≤ g) (h : w.heap[g]? = some (.cells #[.int k x] e (0, 0))) : w.ownsRow B e 1 (.slice (some ⟨g, 0, none⟩) 1 1) 1 (vals k [x]) := ⟨rfl, .inr ⟨g, 1, #[.int k x], rfl, hb, h, Nat.le_refl _, by unfold maxLen; omega, rfl, rfl⟩⟩
def RetSO (a x : Int) (s : Bool) (w : World) (e : Ending) (w' : World) : Prop := ∃ X : Option Addr, e = .returned (.agg #[.int .i64 a, .int .i64 2, .bool s, .bool true, .int .i64 0, .int .i64 0, .int .i64 1, .slice none 0 0, .slice X 1 1, .slice none 0 0]) ∧ OwnE w.heap.size w' ⟨stE a x s, none, 0, X, 1, none, 0⟩ ∧ Plus w w'
def RetDO (a x f : Int) (s : Bool) (w : World) (e : Ending) (w' : World) : Prop := ∃ X Y : Option Addr, e = .returned (.agg #[.int .i64 a, .int .i64 1, .bool s, .bool true, .int .i64 0, .int .i64 0, .int .i64 1, .slice X 1 1, .slice none 0 0, .slice Y 1 1]) ∧ OwnE w.heap.size w' ⟨ldE a x f s, X, 1, none, 0, Y, 1⟩ ∧ Plus w w'
theorem by_x {x : Int} (h : 0 ≤ x ∧ x < 256) : By [x] := fun y hy => by
  obtain rfl := List.mem_singleton.1 hy
  exact h
theorem by_0 : By [] := fun y hy => absurd hy (by simp)
set_option maxRecDepth 100000 in
set_option maxHeartbeats 4000000 in
theorem st_o {a x : Int} {s : Bool} (w : World) (hx : 0 ≤ x ∧ x < 256) : Calls Tryd.prog 39 #[.int .i64 a, .int .u8 x, .bool s] w (RetSO a x s w) := by
  go_enter Tryd.func39, Tryd.ntmps39
  go_wp2
  go_returns
  exact ⟨_, rfl, ⟨World.ownsRow_nil _ _ _ _, row_one (by omega) (new_at _ _ (by simp)), World.ownsRow_nil _ _ _ _, by_0, by_x hx⟩, (by repeat' (first | exact Plus.refl _ | refine Plus.alloc ?_ _ | refine Plus.plus ?_ _ | refine Plus.drew ?_ | refine Plus.drewN ?_ _))⟩
set_option maxRecDepth 100000 in
set_option maxHeartbeats 4000000 in
theorem ld_o {a x f : Int} {s : Bool} (w : World) (hx : 0 ≤ x ∧ x < 256) : Calls Tryd.prog 40 #[.int .i64 a, .int .u8 x, .int .i64 f, .bool s] w (RetDO a x f s w) := by
  go_enter Tryd.func40, Tryd.ntmps40
  go_wp2
  go_returns
  exact ⟨_, _, rfl, ⟨own_plus (row_one (by omega) (new_at _ _ (by simp))) (Plus.alloc (Plus.refl _) _), World.ownsRow_nil _ _ _ _, row_one (by omega) (new_at _ _ (by simp)), by_x hx, by_0⟩, (by repeat' (first | exact Plus.refl _ | refine Plus.alloc ?_ _ | refine Plus.plus ?_ _ | refine Plus.drew ?_ | refine Plus.drewN ?_ _))⟩
/-- Where the building stands. -/
def FlR (w0 : World) (n b : Nat) (s10 s11 s12 : Value) (wr : World) : Prop := ∃ (i : Nat) (v : Value) (ys : List ER) (last val : Int), s12 = .int .i64 i ∧ s10 = .int .i64 last ∧ s11 = .int .u8 val ∧ i ≤ n ∧ ys.length = i ∧ Hid (FlP (ys.map (·.e)) last val) ∧ Bx wr b v (.slice none 0 0) ∧ wr.ownsRow (b + 1) 42 10 v ys.length (rowE ys) ∧ (∀ y ∈ ys, OwnE (b + 1) wr y) ∧ Below w0.heap.size w0 wr
set_option maxRecDepth 100000 in
set_option maxHeartbeats 16000000 in
theorem flat_t {A B C : Option Addr} {ks ws gs : List Int} {n c m d k q : Nat} {al : Bool} (w : World) (HLA : Hid (Lai w)) (H1 : Hid (Ar .i64 w A ks n c)) (H2 : Hid (Ar .u8 w B ws m d)) (H3 : Hid (Ar .i64 w C gs k q)) (HB : Hid (By ws)) (hn : n ≤ 40) (hnm : n ≤ m) (hnk : n ≤ k) : Calls Tryd.prog 7 #[.slice A n c, .slice B m d, .slice C k q, .bool al] w fun e w' => e = .returned (.bool true) ∧ Plus w w' := by
  have hn1 := Lib.hid H1.out.len
  have hn2 := Lib.hid H2.out.len
  have hn3 := Lib.hid H3.out.len
  have hc1 := H1.out.cap
  have hm1 := H1.out.max
  have hc2 := H2.out.cap
  have hm2 := H2.out.max
  have hc3 := H3.out.cap
  have hm3 := H3.out.max
  obtain ⟨i0, hi9, hz0, hz1, hz2⟩ := info_parts infoEv
  have g1 : decide ((40 : Int) < n) = false := decide_eq_false (by omega)
  have g2 : decide ((m : Int) < n) = false := decide_eq_false (by omega)
  have g3 : decide ((k : Int) < n) = false := decide_eq_false (by omega)
  have g4 : decide (m < n) = false := decide_eq_false (by omega)
  have g5 : decide (k < n) = false := decide_eq_false (by omega)
  go_enter Tryd.func7, Tryd.ntmps7
  go_wp2_with (first | (go_at_call 23; (with_reducible refine (first_c _ (HLA.out.plus (by repeat' (first | exact Plus.refl _ | refine Plus.alloc ?_ _ | refine Plus.plus ?_ _ | refine Plus.drew ?_ | refine Plus.drewN ?_ _)))).mono ?_); rintro e xw ⟨rfl, ⟨y0, rfl⟩⟩))
  obtain ⟨b9, hb9⟩ : ∃ b9, w.heap.size + y0.blocks.length = b9 := ⟨_, rfl⟩
  obtain ⟨W0, hW0⟩ : ∃ W0, plus w y0 = W0 := ⟨_, rfl⟩
  have hP0 : Plus w W0 := by rw [← hW0]; exact Plus.is y0
  have hs0 : W0.heap.size = b9 := by rw [← hW0, ← hb9]; simp [go_sem]
  rw [hb9, hW0]
  clear hW0 hb9
  have hX0 := bx_new' W0 (.slice none 0 0) (.slice none 0 0) hs0.symm
  go_loopw [10, 11, 12] (fun s10 s11 s12 wr => FlR W0 n b9 s10 s11 s12 wr) (fun _ _ s12 _ => ((n : Int) - intOf s12).toNat)
  case atStart => exact ⟨0, .slice none 0 0, [], -1, 0, rfl, rfl, rfl, Nat.zero_le _, rfl, Lib.hid FlP.nil, hX0, World.ownsRow_nil _ _ _ _, fun _ h => absurd h (by simp), (Below.refl _ _).alloc (Nat.le_refl _) _⟩
  case round =>
    obtain ⟨i, v, ys, last, val, rfl, rfl, rfl, hi, hyl, HFL, hBX, hO, hys, hB⟩ := hrel
    clear hX0
    obtain ⟨x0, rfl⟩ := Plus.of_below hB
    have h0 := hBX.c0
    have h1 := hBX.c1
    have hfz := hBX.frozen 0
    have hl9 := hBX.lt
    haveI : Old b9 (plus W0 x0) := ⟨hl9⟩
    have HBX := Lib.hid hBX
    have HO := Lib.hid hO
    have HYS := Lib.hid hys
    have HYL := Lib.hid hyl
    have hszb : b9 + 1 ≤ W0.heap.size + x0.blocks.length := by rw [size_plus] at hl9; omega
    clear hBX hO hys hyl hB
    by_cases hlt : i < n
    · have hlt' : (i : Int) < n := by omega
      obtain ⟨ga, oa, rfl, lga, hata⟩ := (H1.out.plus hP0).rd.at_ (j := i) (by rw [← hn1.out]; exact hlt)
      obtain ⟨gb, ob, rfl, lgb, hatb⟩ := (H2.out.plus hP0).rd.at_ (j := i) (by rw [← hn2.out]; omega)
      obtain ⟨gc, oc, rfl, lgc, hatc⟩ := (H3.out.plus hP0).rd.at_ (j := i) (by rw [← hn3.out]; omega)
      have ca := hata i (by rw [← hn1.out]; exact hlt)
      have cb := hatb i (by rw [← hn2.out]; omega)
      have cc := hatc i (by rw [← hn3.out]; omega)
      have hada := add_addr ga oa i
      have hadb := add_addr gb ob i
      have hadc := add_addr gc oc i
      haveI : Old ga W0 := ⟨lga⟩
      haveI : Old gb W0 := ⟨lgb⟩
      haveI : Old gc W0 := ⟨lgc⟩
      have hgb9 : ¬ b9 = gb := by omega
      have hmi' : (i : Int) < m := by omega
      have hki' : (i : Int) < k := by omega
      have hbx := HB.out (ws.getD i 0) (getD_mem (by rw [← hn2.out]; omega))
      obtain ⟨kk, hkk⟩ : ∃ z, ks.getD i 0 = z := ⟨_, rfl⟩
      obtain ⟨xx, hxx⟩ : ∃ z, ws.getD i 0 = z := ⟨_, rfl⟩
      obtain ⟨aa, haa⟩ : ∃ z, gs.getD i 0 = z := ⟨_, rfl⟩
      rw [hkk] at ca
      rw [hxx] at cb hbx
      rw [haa] at cc
      have HCB := Lib.hid cb
      have hbx2 := Lib.hid hbx
      have hval := Lib.hid HFL.out.2.1
      have hr1 : -4 < aa.tmod 4 := by have := Int.lt_tmod_of_pos aa (show (0 : Int) < 4 by omega); omega
      have hr2 : aa.tmod 4 < 4 := Int.tmod_lt_of_pos aa (by omega)
      obtain ⟨r4, hr4⟩ : ∃ z, aa.tmod 4 = z := ⟨_, rfl⟩
      rw [hr4] at hr1 hr2
      clear hkk hxx haa hata hatb hatc hbx
      go_upto_if 47 with fail
      go_cut [13] (fun s13 wx => ∃ who : Int, s13 = .int .i64 who ∧ 0 ≤ who ∧ who < 4 ∧ wx = plus W0 x0)
      case first =>
        by_cases hs4 : r4 < 0
        · have hng : IntKind.i64.wrap (-r4) = -r4 := by
            simp only [IntKind.wrap, IntKind.bits, IntKind.signed]
            simp
            omega
          go_wp2_with fail
          go_meet
          exact ⟨-r4, rfl, by omega, by omega, rfl⟩
        · go_wp2_with fail
          go_meet
          first
            | exact ⟨r4, rfl, by omega, by omega, rfl⟩
            | exact ⟨r4, int_eq hr4, by omega, by omega, rfl⟩
      case rest =>
        obtain ⟨who1, rfl, hw1, hw2, rfl⟩ := hcut
        go_upto_if 50 with fail
        go_cut [13] (fun s13 wx => ∃ who : Int, s13 = .int .i64 who ∧ 0 ≤ who ∧ who < 4 ∧ wx = plus W0 x0)
        case first =>
          cases al
          · go_wp2_with fail
            go_meet
            exact ⟨who1, rfl, hw1, hw2, rfl⟩
          · go_wp2_with fail
            go_meet
            exact ⟨0, rfl, by omega, by omega, rfl⟩
        case rest =>
          obtain ⟨who, rfl, hw3, hw4, rfl⟩ := hcut
          go_upto_region 15 with fail
          go_cut [14] (fun s14 wx => ∃ sq : Bool, s14 = .bool sq ∧ wx = plus W0 x0)
          case first =>
            cases al
            · go_wp2_with fail
              go_meet
              exact ⟨true, rfl, rfl⟩
            · go_wp2_with fail
              go_meet
              exact ⟨decide (5 < kk), rfl, rfl⟩
          case rest =>
            obtain ⟨sq, rfl, rfl⟩ := hcut
            clear hw1 hw2
            go_wp2_with fail
            · go_region_law (first | (rw [if_pos (by simp [Region.wanted])]; unfold Oper.wp; go_simp; (with_reducible refine (st_o _ hbx2.out).mono ?_); rintro e xw ⟨X1, rfl, hC, ⟨x1, rfl⟩⟩; have HC := Lib.hid hC; clear hC; dsimp only) | (refine step_append_own rfl (.tmp 67) (.tmp 75) 22 rfl (b9 + 1) 42 i0 (.agg #[.int .i64 0, .int .i64 0, .bool false, .bool false, .int .i64 0, .int .i64 0, .int .i64 0, .slice none 0 0, .slice none 0 0, .slice none 0 0]) 10 120 Tryd.underlying22 hi9 hz0 hz1 hz2 rfl (by decide) v ys.length (rowE ys) (by simp [Act.eval]) (own_plus HO.out (by repeat' (first | exact Plus.refl _ | refine Plus.alloc ?_ _ | refine Plus.plus ?_ _ | refine Plus.drew ?_ | refine Plus.drewN ?_ _))) _ 1 1 (evL ⟨stE who xx sq, none, 0, X1, 1, none, 0⟩) (by simp [Act.eval]; rfl) rfl (news_at' _ _ _ _ (by simp [go_sem, hs0])) (one_ev _) (by unfold maxLen; rw [HYL.out]; omega) (by rw [HYL.out]; omega) (by simp [go_sem]; omega) ?_; intro v1 w1 hown1 hgr1; obtain ⟨V1, cv1, rfl⟩ := own_form hown1; have HW2 := Lib.hid hown1; have HG2 := Lib.hid hgr1; clear hown1 hgr1; have hB4 := Bx.grown (HBX.out.plus (by repeat' (first | exact Plus.refl _ | refine Plus.alloc ?_ _ | refine Plus.plus ?_ _ | refine Plus.drew ?_ | refine Plus.drewN ?_ _))) HG2.out (own_ty (own_plus HO.out (by repeat' (first | exact Plus.refl _ | refine Plus.alloc ?_ _ | refine Plus.plus ?_ _ | refine Plus.drew ?_ | refine Plus.drewN ?_ _)))) (by decide); have hc4 : w1.cell? ⟨b9, 0, none⟩ = some v := hB4.c0; have hf4 : w1.frozen? ⟨b9, 0, none⟩ = false := hB4.frozen 0; have HB4 := Lib.hid hB4; clear hB4; have HBW := Lib.hid (show Below W0.heap.size W0 w1 from (Plus.below (w' := _) (by repeat' (first | exact Plus.refl _ | refine Plus.alloc ?_ _ | refine Plus.plus ?_ _ | refine Plus.drew ?_ | refine Plus.drewN ?_ _))).grown HG2.out (by simp [go_sem] <;> omega) (fun j hj => Nat.le_trans (by omega) (own_ge HO.out j hj))); have hcb1 : w1.cell? ⟨gb, ob + i, none⟩ = some (.int .u8 xx) := (World.cell?_of_block (HBW.out.block gb lgb)).trans HCB.out))
              all_goals
                go_wp2_with fail
                have hcs : (w1.setCell ⟨b9, 0, none⟩ (.slice V1 (ys.length + 1) cv1)).cell? ⟨gb, ob + i, none⟩ = some (.int .u8 xx) := (World.cell?_of_block (Below.heap_setCell _ _ _ _ (by show gb ≠ b9; omega))).trans hcb1
                go_region
                all_goals go_wp2_with fail
                go_roundw
                case rel => exact ⟨i + 1, _, ys ++ [⟨stE who xx sq, none, 0, X1, 1, none, 0⟩], (i : Int), xx, int_eq (by omega), rfl, rfl, by omega, by rw [List.length_append, HYL.out]; rfl, Lib.hid (by
                  rw [List.map_append]
                  have q := HFL.out.st (a := who) (x := xx) (s := sq) (by omega) hbx2.out
                  first
                    | exact q
                    | (rw [List.length_map, HYL.out] at q; exact q)), (HB4.out.set0 _).plus (Plus.drew (Plus.refl _)), by rw [rowE_snoc, List.length_append]; exact own_plus (own_set HW2.out HB4.out (by decide)) (Plus.drew (Plus.refl _)), fun y hy => by
                  rcases List.mem_append.1 hy with h | h
                  · refine OwnE.plus ?_ (Plus.drew (Plus.refl _))
                    exact OwnE.set (OwnE.grown ((HYS.out y h).plus (by repeat' (first | exact Plus.refl _ | refine Plus.alloc ?_ _ | refine Plus.plus ?_ _ | refine Plus.drew ?_ | refine Plus.drewN ?_ _))) HG2.out (own_ty (own_plus HO.out (by repeat' (first | exact Plus.refl _ | refine Plus.alloc ?_ _ | refine Plus.plus ?_ _ | refine Plus.drew ?_ | refine Plus.drewN ?_ _)))) (by decide) (by decide)) HB4.out (by decide) (by decide)
                  · obtain rfl := List.mem_singleton.1 h
                    refine OwnE.plus ?_ (Plus.drew (Plus.refl _))
                    exact OwnE.set (OwnE.grown ((HC.out.base (by simp [go_sem]; omega)).plus (by repeat' (first | exact Plus.refl _ | refine Plus.alloc ?_ _ | refine Plus.plus ?_ _ | refine Plus.drew ?_ | refine Plus.drewN ?_ _))) HG2.out (own_ty (own_plus HO.out (by repeat' (first | exact Plus.refl _ | refine Plus.alloc ?_ _ | refine Plus.plus ?_ _ | refine Plus.drew ?_ | refine Plus.drewN ?_ _)))) (by decide) (by decide)) HB4.out (by decide) (by decide), HBW.out.setCell (p := ⟨b9, 0, none⟩) (by show W0.heap.size ≤ b9; omega) _ |>.drew⟩
                case measure => simp [intOf]; omega

            · go_region_law (first | (rw [if_pos (by simp [Region.wanted])]; unfold Oper.wp; go_simp; (with_reducible refine (ld_o _ hval.out).mono ?_); rintro e xw ⟨X1, Y1, rfl, hC, ⟨x1, rfl⟩⟩; have HC := Lib.hid hC; clear hC; dsimp only) | (refine step_append_own rfl (.tmp 84) (.tmp 90) 22 rfl (b9 + 1) 42 i0 (.agg #[.int .i64 0, .int .i64 0, .bool false, .bool false, .int .i64 0, .int .i64 0, .int .i64 0, .slice none 0 0, .slice none 0 0, .slice none 0 0]) 10 120 Tryd.underlying22 hi9 hz0 hz1 hz2 rfl (by decide) v ys.length (rowE ys) (by simp [Act.eval]) (own_plus HO.out (by repeat' (first | exact Plus.refl _ | refine Plus.alloc ?_ _ | refine Plus.plus ?_ _ | refine Plus.drew ?_ | refine Plus.drewN ?_ _))) _ 1 1 (evL ⟨ldE who val last sq, X1, 1, none, 0, Y1, 1⟩) (by simp [Act.eval]; rfl) rfl (news_at' _ _ _ _ (by simp [go_sem, hs0])) (one_ev _) (by unfold maxLen; rw [HYL.out]; omega) (by rw [HYL.out]; omega) (by simp [go_sem]; omega) ?_; intro v1 w1 hown1 hgr1; obtain ⟨V1, cv1, rfl⟩ := own_form hown1; have HW2 := Lib.hid hown1; have HG2 := Lib.hid hgr1; clear hown1 hgr1; have hB4 := Bx.grown (HBX.out.plus (by repeat' (first | exact Plus.refl _ | refine Plus.alloc ?_ _ | refine Plus.plus ?_ _ | refine Plus.drew ?_ | refine Plus.drewN ?_ _))) HG2.out (own_ty (own_plus HO.out (by repeat' (first | exact Plus.refl _ | refine Plus.alloc ?_ _ | refine Plus.plus ?_ _ | refine Plus.drew ?_ | refine Plus.drewN ?_ _)))) (by decide); have hc4 : w1.cell? ⟨b9, 0, none⟩ = some v := hB4.c0; have hf4 : w1.frozen? ⟨b9, 0, none⟩ = false := hB4.frozen 0; have HB4 := Lib.hid hB4; clear hB4; have HBW := Lib.hid (show Below W0.heap.size W0 w1 from (Plus.below (w' := _) (by repeat' (first | exact Plus.refl _ | refine Plus.alloc ?_ _ | refine Plus.plus ?_ _ | refine Plus.drew ?_ | refine Plus.drewN ?_ _))).grown HG2.out (by simp [go_sem] <;> omega) (fun j hj => Nat.le_trans (by omega) (own_ge HO.out j hj))); have hcb1 : w1.cell? ⟨gb, ob + i, none⟩ = some (.int .u8 xx) := (World.cell?_of_block (HBW.out.block gb lgb)).trans HCB.out))
              all_goals
                go_wp2_with fail
                go_roundw
                case rel => exact ⟨i + 1, _, ys ++ [⟨ldE who val last sq, X1, 1, none, 0, Y1, 1⟩], last, val, int_eq (by omega), rfl, rfl, by omega, by rw [List.length_append, HYL.out]; rfl, Lib.hid (by
                  rw [List.map_append]
                  have q := HFL.out.ld (a := who) (s := sq) (by omega)
                  first
                    | exact q
                    | (rw [List.length_map, HYL.out] at q; exact q)), HB4.out.set0 _, by rw [rowE_snoc, List.length_append]; exact own_set HW2.out HB4.out (by decide), fun y hy => by
                  rcases List.mem_append.1 hy with h | h
                  · exact OwnE.set (OwnE.grown ((HYS.out y h).plus (by repeat' (first | exact Plus.refl _ | refine Plus.alloc ?_ _ | refine Plus.plus ?_ _ | refine Plus.drew ?_ | refine Plus.drewN ?_ _))) HG2.out (own_ty (own_plus HO.out (by repeat' (first | exact Plus.refl _ | refine Plus.alloc ?_ _ | refine Plus.plus ?_ _ | refine Plus.drew ?_ | refine Plus.drewN ?_ _)))) (by decide) (by decide)) HB4.out (by decide) (by decide)
                  · obtain rfl := List.mem_singleton.1 h
                    exact OwnE.set (OwnE.grown ((HC.out.base (by simp [go_sem]; omega)).plus (by repeat' (first | exact Plus.refl _ | refine Plus.alloc ?_ _ | refine Plus.plus ?_ _ | refine Plus.drew ?_ | refine Plus.drewN ?_ _))) HG2.out (own_ty (own_plus HO.out (by repeat' (first | exact Plus.refl _ | refine Plus.alloc ?_ _ | refine Plus.plus ?_ _ | refine Plus.drew ?_ | refine Plus.drewN ?_ _)))) (by decide) (by decide)) HB4.out (by decide) (by decide), HBW.out.setCell (p := ⟨b9, 0, none⟩) (by show W0.heap.size ≤ b9; omega) _⟩
                case measure => simp [intOf]; omega

    · obtain rfl : n = i := by omega
      have hoo := HO.out
      obtain ⟨V, cv, rfl⟩ := own_form hoo
      have hlm : n = (ys.map (·.e)).length := by rw [List.length_map, HYL.out]
      have hes := es_of_own hoo (fun y hy => (HYS.out y hy).erm)
      rw [HYL.out] at hes h0
      have HLN := Lib.hid hlm
      have HLG := Lib.hid (show Lg (plus W0 x0) (ys.map (·.e)) [] V n cv none 0 0 from ⟨⟨ys, rfl, hes⟩, Pa.nil _ 0 (by omega) none⟩)
      have hmay := fl_may HFL.out (by rw [← hlm]; omega)
      have hvld := fl_vld HFL.out (by rw [← hlm]; omega)
      rw [← hlm] at hvld
      have HMM := Lib.hid hmay
      have HM0 : Hid (MayR (ys.map (·.e)) [] true) := Lib.hid ⟨fun _ => rfl, fun _ => hmay⟩
      have HV1 : Hid (VldR (ys.map (·.e)) [] n (natL n) true) := Lib.hid ⟨fun _ => rfl, fun _ => hvld⟩
      have HLA := Lib.hid (HLA.out.plus (hP0.trans (Plus.is x0)))
      have hcv := hes.cap
      clear hoo hes hmay hvld hlm
      go_upto_region 20 with fail
      go_region_held3 (fun w' => w'.cell? ⟨b9, 0, none⟩ = some (.slice V n cv) ∧ w'.cell? ⟨b9, 1, none⟩ = some (.slice none 0 0)) (refine ⟨?_, ?_⟩ <;> simp [go_sem, h0, h1]) (first | (go_at_call 23; (with_reducible refine (first_c _ (HLA.out.plus (by repeat' (first | exact Plus.refl _ | refine Plus.alloc ?_ _ | refine Plus.plus ?_ _ | refine Plus.drew ?_ | refine Plus.drewN ?_ _)))).mono ?_); rintro e xw ⟨rfl, ⟨y0, rfl⟩⟩) | (go_at_call 20; (with_reducible refine (may_s _ HM0 (HLG.out.plus (by repeat' (first | exact Plus.refl _ | refine Plus.alloc ?_ _ | refine Plus.plus ?_ _ | refine Plus.drew ?_ | refine Plus.drewN ?_ _)))).mono ?_); rintro e xw ⟨rfl, ⟨ym, rfl⟩⟩) | (go_at_call 36; (with_reducible refine (natural_t _ (HLG.out.plus (by repeat' (first | exact Plus.refl _ | refine Plus.alloc ?_ _ | refine Plus.plus ?_ _ | refine Plus.drew ?_ | refine Plus.drewN ?_ _))) HM0 (by omega)).mono ?_); rintro e xw ⟨D, cD, rfl, hN1, ⟨z1, rfl⟩⟩; first | (have HN1 := Lib.hid (ar_undrew hN1); clear hN1) | (have HN1 := Lib.hid hN1; clear hN1)) | (go_at_call 33; (with_reducible refine (valid_t (K := (n + 63) / 64) _ (HLA.out.plus (by repeat' (first | exact Plus.refl _ | refine Plus.alloc ?_ _ | refine Plus.plus ?_ _ | refine Plus.drew ?_ | refine Plus.drewN ?_ _))) (HLG.out.plus (by repeat' (first | exact Plus.refl _ | refine Plus.alloc ?_ _ | refine Plus.plus ?_ _ | refine Plus.drew ?_ | refine Plus.drewN ?_ _))) HM0 HMM (Lib.hid rfl) (HN1.out.plus (by repeat' (first | exact Plus.refl _ | refine Plus.alloc ?_ _ | refine Plus.plus ?_ _ | refine Plus.drew ?_ | refine Plus.drewN ?_ _))) HV1).mono ?_); rintro e xw ⟨rfl, ⟨z2, rfl⟩⟩))
      all_goals go_wp2_with fail
      all_goals go_returns
      all_goals exact ⟨rfl, (hP0.trans (Plus.is x0)).trans (by repeat' (first | exact Plus.refl _ | refine Plus.alloc ?_ _ | refine Plus.plus ?_ _ | refine Plus.drew ?_ | refine Plus.drewN ?_ _))⟩
set_option maxRecDepth 100000 in
set_option maxHeartbeats 4000000 in
theorem flat_f {A B C : Option Addr} {n c m d k q : Nat} {al : Bool} (w : World) (HLA : Hid (Lai w)) (h : ¬ (n ≤ 40 ∧ n ≤ m ∧ n ≤ k)) : Calls Tryd.prog 7 #[.slice A n c, .slice B m d, .slice C k q, .bool al] w fun e w' => e = .returned (.bool true) ∧ Plus w w' := by
  by_cases h1 : n ≤ 40
  · have g1 : decide ((40 : Int) < n) = false := decide_eq_false (by omega)
    by_cases h2 : n ≤ m
    · have g2 : decide ((m : Int) < n) = false := decide_eq_false (by omega)
      have g4 : decide (m < n) = false := decide_eq_false (by omega)
      have g3 : decide ((k : Int) < n) = true := decide_eq_true (by omega)
      have g5 : decide (k < n) = true := decide_eq_true (by omega)
      clear h
      go_enter Tryd.func7, Tryd.ntmps7
      go_wp2_with (first | (go_at_call 23; (with_reducible refine (first_c _ (HLA.out.plus (by repeat' (first | exact Plus.refl _ | refine Plus.alloc ?_ _ | refine Plus.plus ?_ _ | refine Plus.drew ?_ | refine Plus.drewN ?_ _)))).mono ?_); rintro e xw ⟨rfl, ⟨y0, rfl⟩⟩))
      go_returns
      exact ⟨rfl, (by repeat' (first | exact Plus.refl _ | refine Plus.alloc ?_ _ | refine Plus.plus ?_ _ | refine Plus.drew ?_ | refine Plus.drewN ?_ _))⟩
    · have g2 : decide ((m : Int) < n) = true := decide_eq_true (by omega)
      have g4 : decide (m < n) = true := decide_eq_true (by omega)
      clear h
      go_enter Tryd.func7, Tryd.ntmps7
      go_wp2_with (first | (go_at_call 23; (with_reducible refine (first_c _ (HLA.out.plus (by repeat' (first | exact Plus.refl _ | refine Plus.alloc ?_ _ | refine Plus.plus ?_ _ | refine Plus.drew ?_ | refine Plus.drewN ?_ _)))).mono ?_); rintro e xw ⟨rfl, ⟨y0, rfl⟩⟩))
      go_returns
      exact ⟨rfl, (by repeat' (first | exact Plus.refl _ | refine Plus.alloc ?_ _ | refine Plus.plus ?_ _ | refine Plus.drew ?_ | refine Plus.drewN ?_ _))⟩
  · have g1 : decide ((40 : Int) < n) = true := decide_eq_true (by omega)
    clear h
    go_enter Tryd.func7, Tryd.ntmps7
    go_wp2_with (first | (go_at_call 23; (with_reducible refine (first_c _ (HLA.out.plus (by repeat' (first | exact Plus.refl _ | refine Plus.alloc ?_ _ | refine Plus.plus ?_ _ | refine Plus.drew ?_ | refine Plus.drewN ?_ _)))).mono ?_); rintro e xw ⟨rfl, ⟨y0, rfl⟩⟩))
    go_returns
    exact ⟨rfl, (by repeat' (first | exact Plus.refl _ | refine Plus.alloc ?_ _ | refine Plus.plus ?_ _ | refine Plus.drew ?_ | refine Plus.drewN ?_ _))⟩
theorem flat_w {A B C : Option Addr} {ks ws gs : List Int} {n c m d k q : Nat} (w : World) (hL : Lai w) (H1 : Ar .i64 w A ks n c) (H2 : Ar .u8 w B ws m d) (HB : By ws) (H3 : Ar .i64 w C gs k q) (al : Bool) : Calls Tryd.prog 7 #[.slice A n c, .slice B m d, .slice C k q, .bool al] w fun e w' => e = .returned (.bool true) ∧ Plus w w' := by
  by_cases h : n ≤ 40 ∧ n ≤ m ∧ n ≤ k
  · exact flat_t w (Lib.hid hL) (Lib.hid H1) (Lib.hid H2) (Lib.hid H3) (Lib.hid HB) h.1 h.2.1 h.2.2
  · exact flat_f w (Lib.hid hL) h
end Go.Proofs.YtmfdlcicbiincaaDoor
