/- The document's own Bytes, Ints, SameEvent. -/
import Derived.WalkKit
import Derived.WalkSpells
import Derived.WalkLawsBesides
import Derived.Handy
import Derived.Deep.RegionHeld3
import Derived.Deep.DeepCutAuto
import Derived.Deep.QuietTactic
import Derived.BigQuiet
import Derived.Lib.Hide
import Derived.KernelRfl
import Derived.WalkMore
import Derived.Deep.LoopGhost
import Derived.IntWalk
import Derived.Test.YtcpmkfoelhopiaaR2
namespace Go.Proofs.Ytcpmkfoelhopiaa
open Go.RowKit

set_option maxRecDepth 100000 in
set_option maxHeartbeats 4000000 in
theorem rbeq_n {A C : Option Addr} {xs ys : List Int} {n c m d : Nat} {r : Bool} (w : World) (H : Hid (decide (xs = ys) = r)) (ha : Ar .u8 w A xs n c) (hb : Ar .u8 w C ys m d) (hx : By xs) (hy : By ys) : Calls Try.prog 43 #[.slice A n c, .slice C m d] w fun e w' => e = .returned (.bool r) ∧ Plus w w' := by
  have h1 := conv_str ha
  have h2 := conv_str hb
  have HE : Hid (((strOfNums xs).toList == (strOfNums ys).toList) = r) := Lib.hid (by
    rw [← H.out, Bool.eq_iff_iff]
    rw [beq_iff_eq, decide_eq_true_eq]
    exact ⟨str_inj hx hy, fun h => by rw [h]⟩)
  clear ha hb hx hy
  go_enter Try.func43, Try.ntmps43
  go_wp2_with fail
  go_returns
  exact ⟨ret_bool HE.out, (by repeat' (first | exact Plus.refl _ | refine Plus.alloc ?_ _ | refine Plus.plus ?_ _ | refine Plus.drew ?_ | refine Plus.drewN ?_ _))⟩
set_option maxRecDepth 100000 in
set_option maxHeartbeats 4000000 in
theorem rieq_n {A C : Option Addr} {xs ys : List Int} {n c m d : Nat} {r : Bool} (w : World) (H : Hid (decide (xs = ys) = r)) (ha : Ar .i64 w A xs n c) (hb : Ar .i64 w C ys m d) :
    Calls Try.prog 44 #[.slice A n c, .slice C m d] w fun e w' => e = .returned (.bool r) ∧ Plus w w' := by
  rw [← H.out]
  clear H
  obtain ⟨hrd, hlen, hcap, hmax⟩ := ha
  obtain ⟨krd, klen, kcap, kmax⟩ := hb
  subst hlen klen
  by_cases hl : xs.length = ys.length
  · have b1 : ((xs.length : Int) != (ys.length : Int)) = false := by simp [hl]
    have HL := Lib.hid hl
    clear hl
    go_enter Try.func44, Try.ntmps44
    go_wp2
    go_loopw [5] (fun s5 wr => EqRel xs ys s5 ∧ Plus w wr) (fun s5 _ => ((xs.length : Int) - intOf s5).toNat)
    case atStart => exact ⟨⟨0, by omega, rfl, rfl⟩, Plus.refl _⟩
    case round =>
      obtain ⟨⟨k, hk, rfl, he⟩, hp⟩ := hrel
      by_cases hlt : k < xs.length
      · obtain ⟨g, o, rfl, hg, hat⟩ := hrd.at_ hlt
        have hlt2 : k < ys.length := by rw [← HL.out]; exact hlt
        obtain ⟨g2, o2, rfl, hg2, hat2⟩ := krd.at_ hlt2
        have hcell := hat.plus hg hp k hlt
        have hcell2 := hat2.plus hg2 hp k hlt2
        have hadd := add_addr g o k
        have hadd2 := add_addr g2 o2 k
        have HE := Lib.hid he
        have HP := Lib.hid hp
        clear he hat hat2 hp
        obtain ⟨v, hv⟩ : ∃ v, xs.getD k 0 = v := ⟨_, rfl⟩
        obtain ⟨u, hu⟩ : ∃ u, ys.getD k 0 = u := ⟨_, rfl⟩
        rw [hv] at hcell
        rw [hu] at hcell2
        have HV := Lib.hid hv
        have HU := Lib.hid hu
        clear hv hu
        by_cases hvu : v = u
        · subst hvu
          have HT := Lib.hid (take_ext HE.out hlt hlt2 (HV.out.trans HU.out.symm))
          go_wp2_with fail
          go_quiet (fail)
          go_wp2_with fail
          go_roundw
          case rel => exact ⟨⟨k + 1, hlt, by rw [show ((k + 1 : Nat) : Int) = (k : Int) + 1 by omega], HT.out⟩, HP.out.drewN _⟩
          case measure => simp [intOf]; omega
        · have b2 : ((v : Int) != (u : Int)) = true := by simp; omega
          have HN : Hid (decide (xs = ys) = false) := Lib.hid (by simp; intro e; subst e; exact hvu (HV.out.symm.trans HU.out))
          go_wp2_with fail
          go_quiet (fail)
          go_wp2_with fail
          go_ret
          exact ⟨by rw [HN.out]; rfl, HP.out.drewN _⟩
      · obtain rfl : k = xs.length := by omega
        have HR : Hid (decide (xs = ys) = true) := Lib.hid (by
          rw [List.take_length, HL.out, List.take_length] at he
          simpa using he)
        have HP := Lib.hid hp
        clear he hp
        go_wp2_with fail
        go_ret
        exact ⟨by rw [HR.out]; rfl, HP.out⟩
  · have b1 : ((xs.length : Int) != (ys.length : Int)) = true := by simp; omega
    have HN : Hid (decide (xs = ys) = false) := Lib.hid (by simp; intro e; subst e; exact hl rfl)
    go_enter Try.func44, Try.ntmps44
    go_wp2
    go_ret
    exact ⟨by rw [HN.out]; rfl, Plus.refl _⟩
set_option maxRecDepth 100000 in
set_option maxHeartbeats 4000000 in
theorem rsame_c {g k b a z : Int} {s t : Bool} {R W F : Option Addr} {nr cr nw cw nf cf : Nat} {g2 k2 b2 a2 z2 : Int} {s2 t2 : Bool} {R2 W2 F2 : Option Addr} {nr2 cr2 nw2 cw2 nf2 cf2 : Nat} {xs us fs xs2 us2 fs2 : List Int} {p q r : Bool} (w : World) (HP : Hid (decide (xs = xs2) = p)) (HQ : Hid (decide (us = us2) = q)) (HR : Hid (decide (fs = fs2) = r)) (H1 : Hid (EM w R W F xs us fs nr cr nw cw nf cf)) (H2 : Hid (EM w R2 W2 F2 xs2 us2 fs2 nr2 cr2 nw2 cw2 nf2 cf2)) : Calls Try.prog 33 #[Value.agg #[.int .i64 g, .int .i64 k, .bool s, .bool t, .int .i64 b, .int .i64 a, .int .i64 z, .slice R nr cr, .slice W nw cw, .slice F nf cf], Value.agg #[.int .i64 g2, .int .i64 k2, .bool s2, .bool t2, .int .i64 b2, .int .i64 a2, .int .i64 z2, .slice R2 nr2 cr2, .slice W2 nw2 cw2, .slice F2 nf2 cf2]] w fun e w' => e = .returned (.bool (sameB g k s t b a z g2 k2 s2 t2 b2 a2 z2 p q r)) ∧ Plus w w' := by
  go_enter Try.func33, Try.ntmps33
  go_wp2_with (first | (go_at_call_of 43 (Value.slice R nr cr); (with_reducible refine (rbeq_n _ HP (H1.out.er.plus (by repeat' (first | exact Plus.refl _ | refine Plus.alloc ?_ _ | refine Plus.plus ?_ _ | refine Plus.drew ?_ | refine Plus.drewN ?_ _))) (H2.out.er.plus (by repeat' (first | exact Plus.refl _ | refine Plus.alloc ?_ _ | refine Plus.plus ?_ _ | refine Plus.drew ?_ | refine Plus.drewN ?_ _))) H1.out.br H2.out.br).mono ?_); rintro e w1 ⟨rfl, ⟨x1, rfl⟩⟩) | (go_at_call_of 43 (Value.slice W nw cw); (with_reducible refine (rbeq_n _ HQ (H1.out.ew.plus (by repeat' (first | exact Plus.refl _ | refine Plus.alloc ?_ _ | refine Plus.plus ?_ _ | refine Plus.drew ?_ | refine Plus.drewN ?_ _))) (H2.out.ew.plus (by repeat' (first | exact Plus.refl _ | refine Plus.alloc ?_ _ | refine Plus.plus ?_ _ | refine Plus.drew ?_ | refine Plus.drewN ?_ _))) H1.out.bw H2.out.bw).mono ?_); rintro e w1 ⟨rfl, ⟨x2, rfl⟩⟩) | (go_at_call 44; (with_reducible refine (rieq_n _ HR (H1.out.ef.plus (by repeat' (first | exact Plus.refl _ | refine Plus.alloc ?_ _ | refine Plus.plus ?_ _ | refine Plus.drew ?_ | refine Plus.drewN ?_ _))) (H2.out.ef.plus (by repeat' (first | exact Plus.refl _ | refine Plus.alloc ?_ _ | refine Plus.plus ?_ _ | refine Plus.drew ?_ | refine Plus.drewN ?_ _)))).mono ?_); rintro e w1 ⟨rfl, ⟨x3, rfl⟩⟩))
  all_goals go_returns
  all_goals exact ⟨ret_bool (by unfold sameB; simp_all), (by repeat' (first | exact Plus.refl _ | refine Plus.alloc ?_ _ | refine Plus.plus ?_ _ | refine Plus.drew ?_ | refine Plus.drewN ?_ _))⟩
theorem rsame_n {g k b a z : Int} {s t : Bool} {R W F : Option Addr} {nr cr nw cw nf cf : Nat} {g2 k2 b2 a2 z2 : Int} {s2 t2 : Bool} {R2 W2 F2 : Option Addr} {nr2 cr2 nw2 cw2 nf2 cf2 : Nat} {xs us fs xs2 us2 fs2 : List Int} {c : Bool} (w : World) (H : Hid (decide ((⟨g, k, s, t, b, a, z, xs, us, fs⟩ : Ev) = ⟨g2, k2, s2, t2, b2, a2, z2, xs2, us2, fs2⟩) = c)) (H1 : EM w R W F xs us fs nr cr nw cw nf cf) (H2 : EM w R2 W2 F2 xs2 us2 fs2 nr2 cr2 nw2 cw2 nf2 cf2) : Calls Try.prog 33 #[Value.agg #[.int .i64 g, .int .i64 k, .bool s, .bool t, .int .i64 b, .int .i64 a, .int .i64 z, .slice R nr cr, .slice W nw cw, .slice F nf cf], Value.agg #[.int .i64 g2, .int .i64 k2, .bool s2, .bool t2, .int .i64 b2, .int .i64 a2, .int .i64 z2, .slice R2 nr2 cr2, .slice W2 nw2 cw2, .slice F2 nf2 cf2]] w fun e w' => e = .returned (.bool c) ∧ Plus w w' := by
  have e : sameB g k s t b a z g2 k2 s2 t2 b2 a2 z2 (decide (xs = xs2)) (decide (us = us2)) (decide (fs = fs2)) = c := by
    rw [← H.out]
    unfold sameB
    rw [Bool.eq_iff_iff]
    simp [and_assoc]
  rw [← e]
  exact rsame_c w (Lib.hid rfl) (Lib.hid rfl) (Lib.hid rfl) (Lib.hid H1) (Lib.hid H2)
end Go.Proofs.Ytcpmkfoelhopiaa
