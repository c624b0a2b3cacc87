/- Walk of RelHeads. -/
import Derived.WalkKit
import Derived.WalkSpells
import Derived.WalkLawsBesides
import Derived.Handy
import Derived.Deep.RegionHeld3
import Derived.Deep.DeepCutAuto
import Derived.Deep.QuietTactic
import Derived.BigQuiet
import Derived.Lib.Hide
import Derived.KernelRfl
import Derived.WalkMore
import Derived.Deep.LoopGhost
import Derived.IntWalk
import Derived.Deep.RegionLaw
import Derived.RangeFuncBox
import Derived.Test.YtmpecnhmdjilkaaDoorF1
import Derived.Test.YtmpecnhmdjilkaaDoorK18
namespace Go.Proofs.YtmpecnhmdjilkaaDoor
open Go.RowKit


def FewP (b : Bool) (l : List Ev) (n m : Nat) : Prop := b = true → (n : Int) ≤ 60 ∧ (m : Int) ≤ 60 ∧ SmL l
def RetFp (l : List Ev) (n m : Nat) (w : World) (e : Ending) (w' : World) : Prop := ∃ b : Bool, e = .returned (.bool b) ∧ FewP b l n m ∧ Plus w w'
theorem few_t {l : List Ev} {ps : List Pr} {A B : Option Addr} {n c m d : Nat} (w : World) (h : Lg w l ps A n c B m d) : Calls Tryd.prog 10 #[.agg #[.slice A n c, .slice B m d], .int .i64 60] w (RetFp l n m w) := few_s w h (by omega) (by omega)
/-- What is made of a log and of its head. -/
def TwoR (w : World) (l : List Ev) (ps : List Pr) (n N K1 K2 : Nat) (A : Option Addr) (c : Nat) (B : Option Addr) (m d : Nat) (s5 s6 : Value) (wx : World) : Prop := ∃ p1 p2 B1 B2 hs1 hs2, s5 = .pointer (some ⟨p1, 0, none⟩) ∧ s6 = .pointer (some ⟨p2, 0, none⟩) ∧ Rl wx B1 p1 n K1 (befB l ps) hs1 ∧ Rl wx B2 p2 N K2 (befB (l.take N) (ps.filter (amB N))) hs2 ∧ Bx wx w.heap.size (.slice A n c) (.slice B m d) ∧ Plus w wx
set_option maxRecDepth 100000 in
set_option maxHeartbeats 16000000 in
theorem heads_t {l : List Ev} {ps : List Pr} {A B : Option Addr} {n c m d : Nat} {z : Int} {N M K1 K2 : Nat} (w : World) (HK1 : Hid (K1 = (n + 63) / 64)) (HK2 : Hid (K2 = (N + 63) / 64)) (HLA : Hid (Lai w)) (HLG : Hid (Lg w l ps A n c B m d)) (HM0 : Hid (MayR l ps true)) (HMM : Hid (MayP l ps)) (HM2 : Hid (MayP (l.take N) (ps.filter (amB N)))) (HN : Hid ((z ≤ 0 ∧ N = 0) ∨ (0 < z ∧ z ≤ n ∧ z = (N : Int)) ∨ ((n : Int) < z ∧ N = n))) (HH : Hid (l.take (hdN z l.length) = l.take N ∧ ps.filter (amB (hdN z l.length)) = ps.filter (amB N) ∧ N = (l.take N).length ∧ M = (ps.filter (amB N)).length)) (hNn : N ≤ n) (HE : Hid (∀ a b, a < N → b < N → befB (l.take N) (ps.filter (amB N)) a b = befB l ps a b)) : Calls Tryd.prog 6 #[.agg #[.slice A n c, .slice B m d], .int .i64 z] w fun e w' => e = .returned (.bool true) ∧ Plus w w' := by
  have hn0 := HLG.out.len
  have HLN := Lib.hid hn0
  clear hn0
  go_enter Tryd.func6, Tryd.ntmps6
  go_wp2_with (first | (go_at_call 9; (with_reducible refine (first_c _ (HLA.out.plus (by repeat' (first | exact Plus.refl _ | refine Plus.alloc ?_ _ | refine Plus.plus ?_ _ | refine Plus.drew ?_ | refine Plus.drewN ?_ _)))).mono ?_); rintro e xw ⟨rfl, ⟨y0, rfl⟩⟩) | (go_at_call 10; (with_reducible refine (few_t _ (HLG.out.plus (by repeat' (first | exact Plus.refl _ | refine Plus.alloc ?_ _ | refine Plus.plus ?_ _ | refine Plus.drew ?_ | refine Plus.drewN ?_ _)))).mono ?_); rintro e xw ⟨bf, rfl, hbf, ⟨yf, rfl⟩⟩; have HBF := Lib.hid hbf; clear hbf) | (go_at_call 21; (with_reducible refine (may_s _ HM0 (HLG.out.plus (by repeat' (first | exact Plus.refl _ | refine Plus.alloc ?_ _ | refine Plus.plus ?_ _ | refine Plus.drew ?_ | refine Plus.drewN ?_ _)))).mono ?_); rintro e xw ⟨rfl, ⟨ym, rfl⟩⟩))
  · have hbf : bf = true := by cases bf <;> simp_all
    subst hbf
    obtain ⟨f1, f2, f3⟩ := HBF.out rfl
    have HSM := Lib.hid f3
    have hNN := HN.out
    clear HBF f3
    have hfm := HLG.out.ev
    go_cut [5, 6] (fun s5 s6 wx => TwoR w l ps n N K1 K2 A c B m d s5 s6 wx)
    case first =>
      go_region_held3 (fun w' => w'.cell? ⟨w.heap.size, 0, none⟩ = some (.slice A n c) ∧ w'.cell? ⟨w.heap.size, 1, none⟩ = some (.slice B m d)) (refine ⟨?_, ?_⟩ <;> simp [go_sem]) (first | (go_at_call_of 17 (Value.agg #[.slice A n c, .slice B m d]); (with_reducible refine (before_m _ (HLA.out.plus (by repeat' (first | exact Plus.refl _ | refine Plus.alloc ?_ _ | refine Plus.plus ?_ _ | refine Plus.drew ?_ | refine Plus.drewN ?_ _))) (HLG.out.plus (by repeat' (first | exact Plus.refl _ | refine Plus.alloc ?_ _ | refine Plus.plus ?_ _ | refine Plus.drew ?_ | refine Plus.drewN ?_ _))) HMM HK1).mono ?_); rintro e xw ⟨p1, hs1, rfl, hR1, ⟨x1, rfl⟩⟩; have HR1 := Lib.hid hR1; clear hR1) | (go_at_call 24; (with_reducible refine (head_s _ (HLG.out.plus (by repeat' (first | exact Plus.refl _ | refine Plus.alloc ?_ _ | refine Plus.plus ?_ _ | refine Plus.drew ?_ | refine Plus.drewN ?_ _))) HSM HH (by omega) (by omega)).mono ?_); rintro e xw ⟨V, cV, V2, cV2, rfl, hHL, ⟨x2, rfl⟩⟩; have HHL := Lib.hid hHL; clear hHL) | (go_at_call 17; (with_reducible refine (before_m _ (HLA.out.plus (by repeat' (first | exact Plus.refl _ | refine Plus.alloc ?_ _ | refine Plus.plus ?_ _ | refine Plus.drew ?_ | refine Plus.drewN ?_ _))) (HHL.out.plus (by repeat' (first | exact Plus.refl _ | refine Plus.alloc ?_ _ | refine Plus.plus ?_ _ | refine Plus.drew ?_ | refine Plus.drewN ?_ _))) HM2 HK2).mono ?_); rintro e xw ⟨p2, hs2, rfl, hR2, ⟨x3, rfl⟩⟩; have HR2 := Lib.hid hR2; clear hR2))
      all_goals go_wp2_with fail
      all_goals go_meet
      all_goals exact ⟨p1, p2, _, _, hs1, hs2, rfl, rfl, HR1.out.plus (by repeat' (first | exact Plus.refl _ | refine Plus.alloc ?_ _ | refine Plus.plus ?_ _ | refine Plus.drew ?_ | refine Plus.drewN ?_ _)), HR2.out.plus (by repeat' (first | exact Plus.refl _ | refine Plus.alloc ?_ _ | refine Plus.plus ?_ _ | refine Plus.drew ?_ | refine Plus.drewN ?_ _)), (bx_new w _ _).plus (by repeat' (first | exact Plus.refl _ | refine Plus.alloc ?_ _ | refine Plus.plus ?_ _ | refine Plus.drew ?_ | refine Plus.drewN ?_ _)), (by repeat' (first | exact Plus.refl _ | refine Plus.alloc ?_ _ | refine Plus.plus ?_ _ | refine Plus.drew ?_ | refine Plus.drewN ?_ _))⟩
    case rest =>
      obtain ⟨p1, p2, B1, B2, hs1, hs2, rfl, rfl, hR1, hR2, hbx, hp⟩ := hcut
      obtain ⟨x9, rfl⟩ := hp
      have c0 := hbx.c0
      have hbl := hbx.lt
      have HR1 := Lib.hid hR1
      have HR2 := Lib.hid hR2
      clear hR1 hR2 hbx
      go_upto_region 8 with fail
      go_cut [7] (fun s7 wx => s7 = .int .i64 N ∧ wx = plus w x9)
      case first =>
        clear hNN
        rcases HN.out with ⟨h1, -⟩ | ⟨h1, h2, -⟩ | ⟨h1, -⟩
        all_goals go_wp2_with fail
        all_goals go_meet
        all_goals exact ⟨int_eq (by have := HN.out; omega), rfl⟩
      case rest =>
        obtain ⟨rfl, rfl⟩ := hcut
        have hk1 : n ≤ 64 * K1 ∧ K1 ≤ 1000 := by rw [HK1.out]; omega
        have hk2 : N ≤ 64 * K2 ∧ K2 ≤ 1000 := by rw [HK2.out]; omega
        clear c0 hbl hNN
        go_wp2_with fail
        go_loopw [8] (fun s8 wr => ∃ a : Nat, s8 = .int .i64 a ∧ a ≤ N ∧ wr = plus w x9) (fun s8 _ => ((N : Int) - intOf s8).toNat)
        case atStart => exact ⟨0, rfl, Nat.zero_le _, rfl⟩
        case round =>
          obtain ⟨a, rfl, ha, rfl⟩ := hrel
          by_cases hlt : a < N
          · go_wp2_with fail
            go_loopw [9] (fun s9 wr => ∃ b : Nat, s9 = .int .i64 b ∧ b ≤ N ∧ wr = plus w x9) (fun s9 _ => ((N : Int) - intOf s9).toNat)
            case atStart => exact ⟨0, rfl, Nat.zero_le _, rfl⟩
            case round =>
              obtain ⟨b, rfl, hb, rfl⟩ := hrel
              by_cases hlb : b < N
              · obtain ⟨r, hr⟩ : ∃ r, befB l ps a b = r := ⟨_, rfl⟩
                have hr2 : befB (l.take N) (ps.filter (amB N)) a b = r := (HE.out a b hlt hlb).trans hr
                have q1 := Lib.hid (has_t (plus w x9) HR1.out hk1.1 (by omega) (show a < n by omega) (show b < n by omega) hr)
                have q2 := Lib.hid (has_t (plus w x9) HR2.out hk2.1 (by omega) hlt hlb hr2)
                clear hr hr2
                go_wp2_with (first | (go_at_call_of 23 (Value.pointer (some ⟨p1, 0, none⟩)); (with_reducible refine q1.out.mono ?_); rintro e w' ⟨rfl, hw'⟩; rw [hw']; clear hw' w') | (go_at_call 23; (with_reducible refine q2.out.mono ?_); rintro e w' ⟨rfl, hw'⟩; rw [hw']; clear hw' w'))
                go_roundw
                case rel => exact ⟨b + 1, int_eq (by omega), by omega, by trivial⟩
                case measure => simp [intOf]; omega
              · obtain rfl : b = N := by omega
                go_wp2_with fail
                go_roundw
                case rel => exact ⟨a + 1, int_eq (by omega), by omega, by trivial⟩
                case measure => simp [intOf]; omega
          · obtain rfl : a = N := by omega
            go_wp2_with (first | (go_at_call 9; (with_reducible refine (first_c _ (HLA.out.plus (by repeat' (first | exact Plus.refl _ | refine Plus.alloc ?_ _ | refine Plus.plus ?_ _ | refine Plus.drew ?_ | refine Plus.drewN ?_ _)))).mono ?_); rintro e xw ⟨rfl, ⟨y0, rfl⟩⟩) | (go_at_call 22; (refine (len_r _ (HR2.out.plus (by repeat' (first | exact Plus.refl _ | refine Plus.alloc ?_ _ | refine Plus.plus ?_ _ | refine Plus.drew ?_ | refine Plus.drewN ?_ _)))).mono ?_); rintro e w' ⟨rfl, hw'⟩; rw [hw']; clear hw' w'))
            go_returns
            exact ⟨ret_bool (by simp), (by repeat' (first | exact Plus.refl _ | refine Plus.alloc ?_ _ | refine Plus.plus ?_ _ | refine Plus.drew ?_ | refine Plus.drewN ?_ _))⟩
  · go_returns
    exact ⟨rfl, (by repeat' (first | exact Plus.refl _ | refine Plus.alloc ?_ _ | refine Plus.plus ?_ _ | refine Plus.drew ?_ | refine Plus.drewN ?_ _))⟩
set_option maxRecDepth 100000 in
set_option maxHeartbeats 4000000 in
theorem heads_f {l : List Ev} {ps : List Pr} {A B : Option Addr} {n c m d : Nat} {z : Int} (w : World) (HLA : Hid (Lai w)) (HLG : Hid (Lg w l ps A n c B m d)) (HM0 : Hid (MayR l ps false)) : Calls Tryd.prog 6 #[.agg #[.slice A n c, .slice B m d], .int .i64 z] w fun e w' => e = .returned (.bool true) ∧ Plus w w' := by
  go_enter Tryd.func6, Tryd.ntmps6
  go_wp2_with (first | (go_at_call 9; (with_reducible refine (first_c _ (HLA.out.plus (by repeat' (first | exact Plus.refl _ | refine Plus.alloc ?_ _ | refine Plus.plus ?_ _ | refine Plus.drew ?_ | refine Plus.drewN ?_ _)))).mono ?_); rintro e xw ⟨rfl, ⟨y0, rfl⟩⟩) | (go_at_call 10; (with_reducible refine (few_t _ (HLG.out.plus (by repeat' (first | exact Plus.refl _ | refine Plus.alloc ?_ _ | refine Plus.plus ?_ _ | refine Plus.drew ?_ | refine Plus.drewN ?_ _)))).mono ?_); rintro e xw ⟨bf, rfl, hbf, ⟨yf, rfl⟩⟩; have HBF := Lib.hid hbf; clear hbf) | (go_at_call 21; (with_reducible refine (may_s _ HM0 (HLG.out.plus (by repeat' (first | exact Plus.refl _ | refine Plus.alloc ?_ _ | refine Plus.plus ?_ _ | refine Plus.drew ?_ | refine Plus.drewN ?_ _)))).mono ?_); rintro e xw ⟨rfl, ⟨ym, rfl⟩⟩))
  all_goals go_returns
  all_goals exact ⟨rfl, (by repeat' (first | exact Plus.refl _ | refine Plus.alloc ?_ _ | refine Plus.plus ?_ _ | refine Plus.drew ?_ | refine Plus.drewN ?_ _))⟩
theorem heads_w {l : List Ev} {ps : List Pr} {A B : Option Addr} {n c m d : Nat} (w : World) (hL : Lai w) (H : Lg w l ps A n c B m d) (z : Int) : Calls Tryd.prog 6 #[.agg #[.slice A n c, .slice B m d], .int .i64 z] w fun e w' => e = .returned (.bool true) ∧ Plus w w' := by
  by_cases h : MayP l ps
  · have hn := H.len.1
    obtain ⟨N, hNd⟩ : ∃ N, hdN z l.length = N := ⟨_, rfl⟩
    have hN : (z ≤ 0 ∧ N = 0) ∨ (0 < z ∧ z ≤ n ∧ z = (N : Int)) ∨ ((n : Int) < z ∧ N = n) := by
      unfold hdN at hNd
      omega
    have hNn : N ≤ n := by omega
    have hl : N = (l.take N).length := by rw [List.length_take]; omega
    exact heads_t (K1 := (n + 63) / 64) (K2 := (N + 63) / 64) (N := N) (M := (ps.filter (amB N)).length) w (Lib.hid rfl) (Lib.hid rfl) (Lib.hid hL) (Lib.hid H) (Lib.hid ⟨fun _ => rfl, fun _ => h⟩) (Lib.hid h) (Lib.hid (may_head h (by omega))) (Lib.hid hN) (Lib.hid ⟨by rw [hNd], by rw [hNd], hl, rfl⟩) hNn (Lib.hid fun a b ha hb => bef_take h hb (by omega))
  · exact heads_f w (Lib.hid hL) (Lib.hid H) (Lib.hid ⟨fun q => absurd q h, fun q => by cases q⟩)
end Go.Proofs.YtmpecnhmdjilkaaDoor
