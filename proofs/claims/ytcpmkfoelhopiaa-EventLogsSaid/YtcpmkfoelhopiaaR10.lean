/- The document's own Head. -/
import Derived.WalkKit
import Derived.WalkSpells
import Derived.WalkLawsBesides
import Derived.Handy
import Derived.Deep.RegionHeld3
import Derived.Deep.DeepCutAuto
import Derived.Deep.QuietTactic
import Derived.BigQuiet
import Derived.Lib.Hide
import Derived.KernelRfl
import Derived.WalkMore
import Derived.Deep.LoopGhost
import Derived.IntWalk
import Derived.Deep.RegionLaw
import Derived.Test.YtcpmkfoelhopiaaR7
import Derived.Test.YtcpmkfoelhopiaaR9
namespace Go.Proofs.Ytcpmkfoelhopiaa
open Go.RowKit

theorem copyE_v {g k b a z : Int} {s t : Bool} {R W F : Option Addr} {nr cr nw cw nf cf : Nat} {xs us fs : List Int} (w : World) (h : EM w R W F xs us fs nr cr nw cw nf cf) (h1 : nr ≤ 1048576) (h2 : nw ≤ 1048576) (h3 : nf ≤ 1048576) : Calls Try.prog 34 #[Value.agg #[.int .i64 g, .int .i64 k, .bool s, .bool t, .int .i64 b, .int .i64 a, .int .i64 z, .slice R nr cr, .slice W nw cw, .slice F nf cf]] w (RetCv g k s t b a z xs us fs w) := copyE_c w h h1 h2 h3
def Rh1 (w : World) (l : List Ev) (X Y : Value) (s6 : Value) (wr : World) : Prop := ∃ (k : Nat) (v : Value) (ys : List ER), s6 = .int .i64 k ∧ k ≤ l.length ∧ Bt 40 wr w.heap.size X Y ∧ Bt 40 wr (w.heap.size + 1) (.slice none 0 0) (.slice none 0 0) ∧ Bt 40 wr (w.heap.size + 2) v (.slice none 0 0) ∧ wr.ownsRow (w.heap.size + 3) 32 10 v ys.length (rowE ys) ∧ (∀ y ∈ ys, OwnE (w.heap.size + 3) wr y) ∧ ys.map (·.e) = l.take k ∧ ys.length = k ∧ Below w.heap.size w wr
def Rh2 (w : World) (v : Value) (ys : List ER) (N : Nat) (ps : List Pr) (X Y : Value) (s8 : Value) (wr : World) : Prop := ∃ (j : Nat) (v2 : Value) (qs : List Pr), s8 = .int .i64 j ∧ j ≤ ps.length ∧ Bt 40 wr w.heap.size X Y ∧ Bt 40 wr (w.heap.size + 1) (.slice none 0 0) (.slice none 0 0) ∧ Bt 40 wr (w.heap.size + 2) v v2 ∧ wr.ownsRow (w.heap.size + 3) 32 10 v N (rowE ys) ∧ (∀ y ∈ ys, OwnE (w.heap.size + 3) wr y) ∧ wr.ownsRow (w.heap.size + 3) 56 2 v2 qs.length (rowP qs) ∧ qs = (ps.take j).filter (amB N) ∧ qs.length ≤ j ∧ Below w.heap.size w wr
set_option maxRecDepth 100000 in
set_option maxHeartbeats 16000000 in
theorem rhead_x {A B : Option Addr} {rs : List ER} {ps : List Pr} {c d N : Nat} {n : Int} (w : World) (he : Es w A rs rs.length c) (hp : Pa w B ps ps.length d) (hsm : ∀ x ∈ rs, x.e.r.length ≤ 1048576 ∧ x.e.w.length ≤ 1048576 ∧ x.e.f.length ≤ 1048576) (hl : rs.length ≤ 100000) (hl2 : ps.length ≤ 100000) (hN : Hid (N = hdN n rs.length)) : Calls Try.prog 23 #[.agg #[.slice A rs.length c, .slice B ps.length d], .int .i64 n] w (RetHs ((rs.map (·.e)).take N) (ps.filter (amB N)) N (ps.filter (amB N)).length w) := by
  have hcap := he.cap
  have hmax := he.max
  have hcap2 := hp.cap
  have hmax2 := hp.max
  have hNl : N ≤ rs.length := by have q := hN.out; unfold hdN at q; omega
  have H := Lib.hid he
  have HP := Lib.hid hp
  have HSM := Lib.hid hsm
  obtain ⟨i0, hi, hz0, hz1, hz2⟩ := info_parts infoRv
  obtain ⟨j0, hj, hj0, hj1, hj2⟩ := info_parts infoPr
  clear he hp hsm
  go_enter Try.func23, Try.ntmps23
  go_wp2_with fail
  go_loopw [6] (fun s6 wr => Rh1 w ((rs.map (·.e)).take N) (.slice A rs.length c) (.slice B ps.length d) s6 wr) (fun s6 _ => ((N : Int) - intOf s6).toNat)
  case atStart => exact ⟨0, .slice none 0 0, [], rfl, Nat.zero_le _, ((bt_new _ _ _ _ rfl).plus (Plus.alloc (Plus.refl _) _)).plus (Plus.alloc (Plus.refl _) _), (bt_new _ _ _ _ (by simp)).plus (Plus.alloc (Plus.refl _) _), bt_new _ _ _ _ (by simp), World.ownsRow_nil _ _ _ _, fun _ h => absurd h (by simp), rfl, rfl, (((Below.refl _ _).alloc (Nat.le_refl _) _).alloc (by simp) _).alloc (by simp; omega) _⟩
  case round =>
          obtain ⟨k, v, ys, rfl, hk, hB1, hB2, hB3, hO, hys, hyl, hyk, hB⟩ := hrel
          obtain ⟨x0, rfl⟩ := Plus.of_below hB
          have hkl : k ≤ N := by rw [List.length_take, List.length_map] at hk; omega
          have h1 := hB1.c0
          have h4 := hB1.c1
          have h2 := hB3.c0
          have h3 := hB3.c1
          haveI : Old (w.heap.size + 2) (plus w x0) := ⟨hB3.lt⟩
          haveI : Old (w.heap.size + 1) (plus w x0) := ⟨hB2.lt⟩
          haveI : Old w.heap.size (plus w x0) := ⟨hB1.lt⟩
          have hfz := hB3.frozen 0
          have hsz : w.heap.size + 3 ≤ w.heap.size + x0.blocks.length := by have q := hB3.lt; rw [size_plus] at q; omega
          have HB1 := Lib.hid hB1
          have HB2 := Lib.hid hB2
          have HB3 := Lib.hid hB3
          have HO := Lib.hid hO
          have HYS := Lib.hid hys
          have HB := Lib.hid hB
          have HYL := Lib.hid hyl
          have HYK := Lib.hid hyk
          clear hB1 hB2 hB3 hO hys hyl hyk hB
          by_cases hlt : k < N
          · have hlr : k < rs.length := by omega
            have hln : (k : Int) < n := by have q := hN.out; unfold hdN at q; omega
            obtain ⟨g, o, x, rfl, hx, hxm, hM, q0, q1, q2, q3, q4, q5, q6, q7, q8, q9⟩ := (H.out.plus (Plus.is x0)).at_ hlr
            have hu := getD_map hlr hx
            obtain ⟨hs1, hs2, hs3⟩ := HSM.out x hxm
            obtain ⟨⟨g1, k1, s1, t1, b1, a1, z1, xs1, us1, fs1⟩, R1, cr1, W1, cw1, F1, cf1⟩ := x
            simp only at q0 q1 q2 q3 q4 q5 q6 q7 q8 q9 hM hu hs1 hs2 hs3
            have HM := Lib.hid (show EM (plus w x0) R1 W1 F1 xs1 us1 fs1 xs1.length cr1 us1.length cw1 fs1.length cf1 from hM)
            have hadd := add_addr g o (k * 10)
            have HU := Lib.hid hu
            have hyl2 : ys.length ≤ 100000 := by rw [HYK.out]; omega
            clear hM hu hxm hx
            go_wp2_with fail
            go_region_law (first | (rw [if_pos (by simp [Region.wanted])]; unfold Oper.wp; go_simp; (with_reducible refine (copyE_v _ (HM.out.plus (by repeat' (first | exact Plus.refl _ | refine Plus.alloc ?_ _ | refine Plus.plus ?_ _ | refine Plus.drew ?_ | refine Plus.drewN ?_ _))) (by omega) (by omega) (by omega)).mono ?_); rintro e xw ⟨D1, D1c, D2, D2c, D3, D3c, rfl, hC, ⟨x1, rfl⟩⟩; have HC := Lib.hid hC; clear hC; dsimp only) | (refine step_append_own rfl (.tmp 23) (.tmp 30) 38 rfl (w.heap.size + 3) 32 i0 (.agg #[.int .i64 0, .int .i64 0, .bool false, .bool false, .int .i64 0, .int .i64 0, .int .i64 0, .slice none 0 0, .slice none 0 0, .slice none 0 0]) 10 120 Try.underlying38 hi hz0 hz1 hz2 rfl (by decide) v ys.length (rowE ys) (by simp [Act.eval]) (own_plus HO.out (by repeat' (first | exact Plus.refl _ | refine Plus.alloc ?_ _ | refine Plus.plus ?_ _ | refine Plus.drew ?_ | refine Plus.drewN ?_ _))) _ 1 1 (evL ⟨⟨g1, k1, s1, t1, b1, a1, z1, xs1, us1, fs1⟩, D1, D1c, D2, D2c, D3, D3c⟩) (by simp [Act.eval]; rfl) rfl (news_at' _ _ _ _ (by simp [go_sem])) (one_ev _) (by unfold maxLen; omega) (by omega) (by simp [go_sem]; omega) ?_; intro v1 w1 hown1 hgr1; obtain ⟨V1, cv1, rfl⟩ := own_form hown1; have HW2 := Lib.hid hown1; have HG2 := Lib.hid hgr1; clear hown1 hgr1; have hB4 := Bt.grown (HB3.out.plus (by repeat' (first | exact Plus.refl _ | refine Plus.alloc ?_ _ | refine Plus.plus ?_ _ | refine Plus.drew ?_ | refine Plus.drewN ?_ _))) HG2.out (own_ty (own_plus HO.out (by repeat' (first | exact Plus.refl _ | refine Plus.alloc ?_ _ | refine Plus.plus ?_ _ | refine Plus.drew ?_ | refine Plus.drewN ?_ _)))) (by decide); have hc4 : w1.cell? ⟨w.heap.size + 1 + 1, 0, none⟩ = some v := hB4.c0; have hf4 : w1.frozen? ⟨w.heap.size + 1 + 1, 0, none⟩ = false := hB4.frozen 0; have HB4 := Lib.hid hB4; clear hB4))
            all_goals
              go_wp2_with fail
              go_roundw
              case rel => exact ⟨k + 1, _, ys ++ [⟨⟨g1, k1, s1, t1, b1, a1, z1, xs1, us1, fs1⟩, D1, D1c, D2, D2c, D3, D3c⟩], int_eq (by omega), by rw [List.length_take, List.length_map]; omega, (Bt.grown (HB1.out.plus (by repeat' (first | exact Plus.refl _ | refine Plus.alloc ?_ _ | refine Plus.plus ?_ _ | refine Plus.drew ?_ | refine Plus.drewN ?_ _))) HG2.out (own_ty (own_plus HO.out (by repeat' (first | exact Plus.refl _ | refine Plus.alloc ?_ _ | refine Plus.plus ?_ _ | refine Plus.drew ?_ | refine Plus.drewN ?_ _)))) (by decide)).other (by omega) _, (Bt.grown (HB2.out.plus (by repeat' (first | exact Plus.refl _ | refine Plus.alloc ?_ _ | refine Plus.plus ?_ _ | refine Plus.drew ?_ | refine Plus.drewN ?_ _))) HG2.out (own_ty (own_plus HO.out (by repeat' (first | exact Plus.refl _ | refine Plus.alloc ?_ _ | refine Plus.plus ?_ _ | refine Plus.drew ?_ | refine Plus.drewN ?_ _)))) (by decide)).other (by omega) _, HB4.out.set0 _, by rw [rowE_snoc, List.length_append]; exact own_set HW2.out HB4.out (by decide), fun y hy => by
                rcases List.mem_append.1 hy with h | h
                · exact OwnE.set (OwnE.grown ((HYS.out y h).plus (by repeat' (first | exact Plus.refl _ | refine Plus.alloc ?_ _ | refine Plus.plus ?_ _ | refine Plus.drew ?_ | refine Plus.drewN ?_ _))) HG2.out (own_ty (own_plus HO.out (by repeat' (first | exact Plus.refl _ | refine Plus.alloc ?_ _ | refine Plus.plus ?_ _ | refine Plus.drew ?_ | refine Plus.drewN ?_ _)))) (by decide) (by decide)) HB4.out (by decide) (by decide)
                · obtain rfl := List.mem_singleton.1 h
                  exact OwnE.set (OwnE.grown ((HC.out.base (by simp [go_sem]; omega)).plus (by repeat' (first | exact Plus.refl _ | refine Plus.alloc ?_ _ | refine Plus.plus ?_ _ | refine Plus.drew ?_ | refine Plus.drewN ?_ _))) HG2.out (own_ty (own_plus HO.out (by repeat' (first | exact Plus.refl _ | refine Plus.alloc ?_ _ | refine Plus.plus ?_ _ | refine Plus.drew ?_ | refine Plus.drewN ?_ _)))) (by decide) (by decide)) HB4.out (by decide) (by decide), by
                rw [List.map_append, HYL.out, List.take_take, Nat.min_eq_left (by omega), List.take_take, Nat.min_eq_left (by omega), take_snoc HU.out (by rw [List.length_map]; omega)]
                rfl, by rw [List.length_append, HYK.out]; rfl, ((Plus.below (w' := _) (by repeat' (first | exact Plus.refl _ | refine Plus.alloc ?_ _ | refine Plus.plus ?_ _ | refine Plus.drew ?_ | refine Plus.drewN ?_ _))).grown HG2.out (by simp [go_sem]; omega) (fun j hj => Nat.le_trans (by omega) (own_ge HO.out j hj))).setCell (by show w.heap.size ≤ w.heap.size + 1 + 1; omega) _⟩
              case measure => simp [intOf]; omega
          · obtain rfl : k = N := by omega
            rw [List.take_take, Nat.min_self] at HYL
            obtain ⟨V, cv, rfl⟩ := own_form HO.out
            have hyk2 := HYK.out
            rw [hyk2] at h2 HB3 HO
            have HD : (k < rs.length ∧ ¬ (k : Int) < n) ∨ k = rs.length := by have q := hN.out; unfold hdN at q; omega
            have h4 := HB1.out.c1
            have hkb : k ≤ 100000 := by omega
            rcases HD with ⟨hd1, hd2⟩ | hd1
            all_goals (try (have hd3 : ¬ k < rs.length := (by omega); clear hd1))
            all_goals
              go_wp2_with fail
              go_loopw [8] (fun s8 wr => Rh2 w (.slice V k cv) ys k ps (.slice A rs.length c) (.slice B ps.length d) s8 wr) (fun s8 _ => ((ps.length : Int) - intOf s8).toNat)
              case atStart => exact ⟨0, .slice none 0 0, [], rfl, Nat.zero_le _, HB1.out, HB2.out, HB3.out, HO.out, HYS.out, World.ownsRow_nil _ _ _ _, rfl, Nat.le_refl _, HB.out⟩
              case round =>
                obtain ⟨j, v2, qs, rfl, hk2, hB1, hB2, hB3, hO, hys, hQ, hqs, hql, hB⟩ := hrel
                clear HB1 HB2 HB3 HO HYS HB h1 h2 h3 h4 hfz hsz
                obtain ⟨x2, rfl⟩ := Plus.of_below hB
                have h1 := hB1.c0
                have h4 := hB1.c1
                have h2 := hB3.c0
                have h3 := hB3.c1
                haveI : Old (w.heap.size + 2) (plus w x2) := ⟨hB3.lt⟩
                haveI : Old (w.heap.size + 1) (plus w x2) := ⟨hB2.lt⟩
                haveI : Old w.heap.size (plus w x2) := ⟨hB1.lt⟩
                have hfz := hB3.frozen 1
                have hsz : w.heap.size + 3 ≤ w.heap.size + x2.blocks.length := by have q := hB3.lt; rw [size_plus] at q; omega
                have HB1 := Lib.hid hB1
                have HB2 := Lib.hid hB2
                have HB3 := Lib.hid hB3
                have HO := Lib.hid hO
                have HYS := Lib.hid hys
                have HB := Lib.hid hB
                have HQ := Lib.hid hQ
                have HQS := Lib.hid hqs
                clear hB1 hB2 hB3 hO hys hB hQ hqs
                by_cases hjl : j < ps.length
                · obtain ⟨g, o, rfl, hg, hat⟩ := (HP.out.rd.plus (Plus.is x2)) (by omega)
                  obtain ⟨hc0, hc1⟩ := hat j hjl
                  have hadd := add_addr g o (j * 2)
                  have hadd3 := add_addr g (o + j * 2) 1
                  obtain ⟨u, hu⟩ : ∃ u, ps.getD j (0, 0) = u := ⟨_, rfl⟩
                  rw [hu] at hc0 hc1
                  obtain ⟨p, q⟩ := u
                  simp only at hc0 hc1
                  have HV := Lib.hid hu
                  clear hu hat
                  obtain ⟨b, hb⟩ : ∃ b, amongM p q (k : Nat) = b := ⟨_, rfl⟩
                  have HF := Lib.hid (filter_snoc (b := b) HV.out hjl hb)
                  cases b
                  · have hd : p < 0 ∨ (0 ≤ p ∧ (k : Int) ≤ p) ∨ (0 ≤ p ∧ p < k ∧ q < 0) ∨ (0 ≤ p ∧ p < k ∧ 0 ≤ q ∧ (k : Int) ≤ q) := by
                      unfold amongM at hb
                      simp at hb
                      omega
                    clear hb
                    rcases hd with e1 | ⟨e1, e2⟩ | ⟨e1, e2, e3⟩ | ⟨e1, e2, e3, e4⟩
                    all_goals
                      go_wp2_with fail
                      go_roundw
                      case rel => exact ⟨j + 1, v2, qs, int_eq (by omega), hjl, HB1.out.plus (by repeat' (first | exact Plus.refl _ | refine Plus.alloc ?_ _ | refine Plus.plus ?_ _ | refine Plus.drew ?_ | refine Plus.drewN ?_ _)), HB2.out.plus (by repeat' (first | exact Plus.refl _ | refine Plus.alloc ?_ _ | refine Plus.plus ?_ _ | refine Plus.drew ?_ | refine Plus.drewN ?_ _)), HB3.out.plus (by repeat' (first | exact Plus.refl _ | refine Plus.alloc ?_ _ | refine Plus.plus ?_ _ | refine Plus.drew ?_ | refine Plus.drewN ?_ _)), own_plus HO.out (by repeat' (first | exact Plus.refl _ | refine Plus.alloc ?_ _ | refine Plus.plus ?_ _ | refine Plus.drew ?_ | refine Plus.drewN ?_ _)), fun y hy => (HYS.out y hy).plus (by repeat' (first | exact Plus.refl _ | refine Plus.alloc ?_ _ | refine Plus.plus ?_ _ | refine Plus.drew ?_ | refine Plus.drewN ?_ _)), own_plus HQ.out (by repeat' (first | exact Plus.refl _ | refine Plus.alloc ?_ _ | refine Plus.plus ?_ _ | refine Plus.drew ?_ | refine Plus.drewN ?_ _)), by rw [HF.out, HQS.out]; simp, by omega, HB.out.trans ((Plus.below (by repeat' (first | exact Plus.refl _ | refine Plus.alloc ?_ _ | refine Plus.plus ?_ _ | refine Plus.drew ?_ | refine Plus.drewN ?_ _))).mono (by simp [go_sem]))⟩
                      case measure => simp [intOf]; omega
                  · have hd : 0 ≤ p ∧ p < k ∧ 0 ≤ q ∧ q < k := by
                      unfold amongM at hb
                      simp at hb
                      omega
                    obtain ⟨e1, e2, e3, e4⟩ := hd
                    clear hb
                    go_wp2_with (at_builtin; refine wpList_append_own _ rfl _ _ 29 rfl (w.heap.size + 3) 56 j0 (.agg #[.int .i64 0, .int .i64 0]) 2 16 Try.underlying29 hj hj0 hj1 hj2 rfl (by decide) _ _ _ rfl (own_plus HQ.out (by repeat' (first | exact Plus.refl _ | refine Plus.alloc ?_ _ | refine Plus.plus ?_ _ | refine Plus.drew ?_ | refine Plus.drewN ?_ _))) _ 1 1 (prL (p, q)) rfl rfl (news_at' _ _ _ _ (by simp [go_sem])) (one_pr _) (by unfold maxLen; omega) (by omega) (by simp [go_sem]; omega) ?_; intro v3 w1 hown1 hgr1 _; obtain ⟨V3, cv3, rfl⟩ := own_form hown1; have HW2 := Lib.hid hown1; have HG2 := Lib.hid hgr1; clear hown1 hgr1; have hB4 := Bt.grown (HB3.out.plus (by repeat' (first | exact Plus.refl _ | refine Plus.alloc ?_ _ | refine Plus.plus ?_ _ | refine Plus.drew ?_ | refine Plus.drewN ?_ _))) HG2.out (own_ty (own_plus HQ.out (by repeat' (first | exact Plus.refl _ | refine Plus.alloc ?_ _ | refine Plus.plus ?_ _ | refine Plus.drew ?_ | refine Plus.drewN ?_ _)))) (by decide); have hc4 : w1.cell? ⟨w.heap.size + 1 + 1, 1, none⟩ = some v2 := hB4.c1; have hf4 : w1.frozen? ⟨w.heap.size + 1 + 1, 1, none⟩ = false := hB4.frozen 1; have HB4 := Lib.hid hB4; clear hB4)
                    go_roundw
                    case rel => exact ⟨j + 1, _, qs ++ [(p, q)], int_eq (by omega), hjl, (Bt.grown (HB1.out.plus (by repeat' (first | exact Plus.refl _ | refine Plus.alloc ?_ _ | refine Plus.plus ?_ _ | refine Plus.drew ?_ | refine Plus.drewN ?_ _))) HG2.out (own_ty (own_plus HQ.out (by repeat' (first | exact Plus.refl _ | refine Plus.alloc ?_ _ | refine Plus.plus ?_ _ | refine Plus.drew ?_ | refine Plus.drewN ?_ _)))) (by decide)).other (by omega) _, (Bt.grown (HB2.out.plus (by repeat' (first | exact Plus.refl _ | refine Plus.alloc ?_ _ | refine Plus.plus ?_ _ | refine Plus.drew ?_ | refine Plus.drewN ?_ _))) HG2.out (own_ty (own_plus HQ.out (by repeat' (first | exact Plus.refl _ | refine Plus.alloc ?_ _ | refine Plus.plus ?_ _ | refine Plus.drew ?_ | refine Plus.drewN ?_ _)))) (by decide)).other (by omega) _, HB4.out.set1 _, own_set (own_grown (own_plus HO.out (by repeat' (first | exact Plus.refl _ | refine Plus.alloc ?_ _ | refine Plus.plus ?_ _ | refine Plus.drew ?_ | refine Plus.drewN ?_ _))) HG2.out (own_ty (own_plus HQ.out (by repeat' (first | exact Plus.refl _ | refine Plus.alloc ?_ _ | refine Plus.plus ?_ _ | refine Plus.drew ?_ | refine Plus.drewN ?_ _)))) (by decide)) HB4.out (by decide), fun y hy => OwnE.set (OwnE.grown ((HYS.out y hy).plus (by repeat' (first | exact Plus.refl _ | refine Plus.alloc ?_ _ | refine Plus.plus ?_ _ | refine Plus.drew ?_ | refine Plus.drewN ?_ _))) HG2.out (own_ty (own_plus HQ.out (by repeat' (first | exact Plus.refl _ | refine Plus.alloc ?_ _ | refine Plus.plus ?_ _ | refine Plus.drew ?_ | refine Plus.drewN ?_ _)))) (by decide) (by decide)) HB4.out (by decide) (by decide), by rw [rowP_snoc, List.length_append]; exact own_set HW2.out HB4.out (by decide), by rw [HF.out, HQS.out]; rfl, by rw [List.length_append]; show qs.length + 1 ≤ j + 1; omega, ((Plus.below (w' := _) (by repeat' (first | exact Plus.refl _ | refine Plus.alloc ?_ _ | refine Plus.plus ?_ _ | refine Plus.drew ?_ | refine Plus.drewN ?_ _))).grown HG2.out (by simp [go_sem]; omega) (fun j hj => Nat.le_trans (by omega) (own_ge HQ.out j hj))).setCell (by show w.heap.size ≤ w.heap.size + 1 + 1; omega) _⟩
                    case measure => simp [intOf]; omega
                · obtain rfl : j = ps.length := by omega
                  obtain ⟨V2, cv2, rfl⟩ := own_form HQ.out
                  have hy0 := HB2.out.c0
                  have hy1 := HB2.out.c1
                  have hf0 := HB2.out.frozen 0
                  have hf1 := HB2.out.frozen 1
                  have hqe := HQS.out
                  rw [List.take_length] at hqe
                  subst hqe
                  clear HQS
                  have hr := (HB2.out.set0 (.slice V k cv)).set1 (.slice V2 (ps.filter (amB k)).length cv2)
                  have hr0 := hr.c0
                  have hr1 := hr.c1
                  clear hr
                  have qe := own_base (B := 0) (own_set (own_set HO.out HB2.out (i := 0) (u := .slice V k cv) (by decide)) (HB2.out.set0 (.slice V k cv)) (i := 1) (u := .slice V2 (ps.filter (amB k)).length cv2) (by decide)) (Nat.zero_le _)
                  have qp := own_base (B := 0) (own_set (own_set HQ.out HB2.out (i := 0) (u := .slice V k cv) (by decide)) (HB2.out.set0 (.slice V k cv)) (i := 1) (u := .slice V2 (ps.filter (amB k)).length cv2) (by decide)) (Nat.zero_le _)
                  go_wp2_with fail
                  exact bodyPost_ret (v := .agg #[.slice V k cv, .slice V2 (ps.filter (amB k)).length cv2]) (by simp [results, Try.results23, go_sem, hr0, hr1]) rfl ⟨V, cv, V2, cv2, rfl, ⟨⟨ys, HYL.out, es_of_own32 HYK.out qe fun y hy => (OwnE.set (OwnE.set (HYS.out y hy) HB2.out (by decide) (by decide)) (HB2.out.set0 _) (by decide) (by decide)).erm⟩, pa_of_own qp⟩, Plus.of_below ((HB.out.setCell (by show w.heap.size ≤ w.heap.size + 1; omega) _).setCell (by show w.heap.size ≤ w.heap.size + 1; omega) _)⟩
end Go.Proofs.Ytcpmkfoelhopiaa
