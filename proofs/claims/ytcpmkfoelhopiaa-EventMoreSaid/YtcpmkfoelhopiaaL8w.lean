/- Walk of EventMore. -/
import Derived.WalkKit
import Derived.WalkSpells
import Derived.WalkLawsBesides
import Derived.Handy
import Derived.Deep.RegionHeld3
import Derived.Deep.DeepCutAuto
import Derived.Deep.QuietTactic
import Derived.BigQuiet
import Derived.Lib.Hide
import Derived.KernelRfl
import Derived.WalkMore
import Derived.Deep.LoopGhost
import Derived.IntWalk
import Derived.Test.YtcpmkfoelhopiaaL8v
namespace Go.Proofs.Ytcpmkfoelhopiaa
open Go.RowKit

theorem more_v {g k b a z : Int} {s t : Bool} {R W F : Option Addr} {nr cr nw cw nf cf : Nat} {xs us fs : List Int} {l : List Ev} {ps : List Pr} {A B : Option Addr} {n c m d : Nat} (w : World) (H : Lg w l ps A n c B m d) (HSM : Hid (SmL l)) (H4 : Hid (l.take (hdN (n : Int) l.length) = l ∧ ps.filter (amB (hdN (n : Int) l.length)) = ps ∧ n = l.length ∧ m = ps.length)) (hl : n ≤ 1000) (hl2 : m ≤ 1000) (HE : EM w R W F xs us fs nr cr nw cw nf cf) : Calls Try.prog 27 #[.agg #[.slice A n c, .slice B m d], Value.agg #[.int .i64 g, .int .i64 k, .bool s, .bool t, .int .i64 b, .int .i64 a, .int .i64 z, .slice R nr cr, .slice W nw cw, .slice F nf cf]] w (RetMo (l ++ [⟨g, k, s, t, b, a, z, xs, us, fs⟩]) ps (n + 1) m w) := by
  obtain rfl := HE.er.len
  obtain rfl := HE.ew.len
  obtain rfl := HE.ef.len
  exact more_c w (Lib.hid H) HSM H4 hl hl2 (Lib.hid HE)
theorem ar_new1 {k : IntKind} (w : World) (v : Int) (t : TypeId) {b : Nat} (hb : b = w.heap.size) : Ar k (w.alloc (.cells #[.int k v] t)) (some ⟨b, 0, none⟩) [v] 1 1 := by
  subst hb
  refine ar_one (xs := [v]) (by simp) (fun j hj => ?_) (by show 1 ≤ 100; omega)
  rcases j with _ | j
  · simp [go_sem]
  · exact absurd hj (by show ¬ j + 1 < 1; omega)
theorem by_nil : By [] := fun _ h => absurd h (by simp)
theorem ar_nil (k : IntKind) (w : World) : Ar k w none [] 0 0 := Ar.nil _ _ (Nat.zero_le _) _
set_option maxRecDepth 100000 in
set_option maxHeartbeats 4000000 in
theorem more_l {l : List Ev} {ps : List Pr} {A B : Option Addr} {n c m d : Nat} {q v : Int} {r0 : Bool} (w : World) (H : Hid (Lg w l ps A n c B m d)) (HM0 : Hid (MayR l ps r0)) (h : r0 = false ∨ q < 0 ∨ 63 < q) : Calls Try.prog 8 #[.agg #[.slice A n c, .slice B m d], .int .i64 q, .int .u8 v] w fun e w' => e = .returned (.bool true) ∧ Plus w w' := by
  rcases h with rfl | h | h
  all_goals
    go_enter Try.func8, Try.ntmps8
    go_wp2_with (first | (go_at_call 9; (with_reducible refine (first_c _).mono ?_); rintro e w1 ⟨rfl, ⟨y0, rfl⟩⟩) | (go_at_call 10; (with_reducible refine (few_t _ (H.out.plus (by repeat' (first | exact Plus.refl _ | refine Plus.alloc ?_ _ | refine Plus.plus ?_ _ | refine Plus.drew ?_ | refine Plus.drewN ?_ _)))).mono ?_); rintro e w1 ⟨bf, rfl, hbf, ⟨yf, rfl⟩⟩; have HBF := Lib.hid hbf; clear hbf) | (go_at_call 24; (with_reducible refine (may_s _ HM0 (H.out.plus (by repeat' (first | exact Plus.refl _ | refine Plus.alloc ?_ _ | refine Plus.plus ?_ _ | refine Plus.drew ?_ | refine Plus.drewN ?_ _)))).mono ?_); rintro e xw ⟨rfl, ⟨ym, rfl⟩⟩))
  all_goals (try (exfalso; omega))
  all_goals go_returns
  all_goals exact ⟨rfl, (by repeat' (first | exact Plus.refl _ | refine Plus.alloc ?_ _ | refine Plus.plus ?_ _ | refine Plus.drew ?_ | refine Plus.drewN ?_ _))⟩
set_option maxRecDepth 100000 in
set_option maxHeartbeats 16000000 in
theorem more_z {l : List Ev} {ps : List Pr} {A B : Option Addr} {n c m d : Nat} {q v : Int} (w : World) (H : Hid (Lg w l ps A n c B m d)) (HM0 : Hid (MayR l ps true)) (hq0 : 0 ≤ q) (hq1 : q ≤ 63) (HSM : Hid (SmL l)) (H4 : Hid (l.take (hdN (n : Int) l.length) = l ∧ ps.filter (amB (hdN (n : Int) l.length)) = ps ∧ n = l.length ∧ m = ps.length)) (hm : m ≤ 1000) (HBY : Hid (By [v])) (HMa : Hid (n ≤ 300 → MayR (l ++ [⟨q, 0, false, false, 0, 0, 0, [], [], []⟩]) ps true)) (HMb : Hid (n ≤ 300 → MayR (l ++ [⟨q, 2, false, false, 0, 0, 1, [], [v], []⟩]) ps true)) (HMc : Hid (n ≤ 300 → MayR (l ++ [⟨q, 1, false, false, 0, 0, 1, [v], [], [-1]⟩]) ps true)) (HMd : Hid (n ≤ 300 → MayR (l ++ [⟨q, 1, false, false, 0, 0, 1, [v], [], [(n : Int)]⟩]) ps false)) (hv : (v == 0) = true) : Calls Try.prog 8 #[.agg #[.slice A n c, .slice B m d], .int .i64 q, .int .u8 v] w fun e w' => e = .returned (.bool true) ∧ Plus w w' := by
  go_enter Try.func8, Try.ntmps8
  go_wp2_with (first | (go_at_call 9; (with_reducible refine (first_c _).mono ?_); rintro e w1 ⟨rfl, ⟨y0, rfl⟩⟩) | (go_at_call 10; (with_reducible refine (few_t _ (H.out.plus (by repeat' (first | exact Plus.refl _ | refine Plus.alloc ?_ _ | refine Plus.plus ?_ _ | refine Plus.drew ?_ | refine Plus.drewN ?_ _)))).mono ?_); rintro e w1 ⟨bf, rfl, hbf, ⟨yf, rfl⟩⟩; have HBF := Lib.hid hbf; clear hbf) | (go_at_call 24; (with_reducible refine (may_s _ HM0 (H.out.plus (by repeat' (first | exact Plus.refl _ | refine Plus.alloc ?_ _ | refine Plus.plus ?_ _ | refine Plus.drew ?_ | refine Plus.drewN ?_ _)))).mono ?_); rintro e xw ⟨rfl, ⟨ym, rfl⟩⟩))
  · have hbf : bf = true := by cases bf <;> simp_all
    subst hbf
    obtain ⟨f1, f2, f3⟩ := HBF.out rfl
    have HNa := Lib.hid (HMa.out (by omega))
    have HNb := Lib.hid (HMb.out (by omega))
    have HNc := Lib.hid (HMc.out (by omega))
    have HNd := Lib.hid (HMd.out (by omega))
    clear HBF f3 HMa HMb HMc HMd
    refine (more_v _ (H.out.plus (by repeat' (first | exact Plus.refl _ | refine Plus.alloc ?_ _ | refine Plus.plus ?_ _ | refine Plus.drew ?_ | refine Plus.drewN ?_ _))) HSM H4 (by omega) (by omega) ⟨ar_nil _ _, ar_nil _ _, ar_nil _ _, by_nil, by_nil⟩).mono ?_
    rintro e w1 ⟨V, Vc, V2, Vc2, rfl, hV, ⟨xv, rfl⟩⟩
    have HV := Lib.hid hV
    clear hV
    go_wp2_with fail
    refine (more_v _ (H.out.plus (by repeat' (first | exact Plus.refl _ | refine Plus.alloc ?_ _ | refine Plus.plus ?_ _ | refine Plus.drew ?_ | refine Plus.drewN ?_ _))) HSM H4 (by omega) (by omega) ⟨ar_nil _ _, ar_new1 _ v 5 (by simp [go_sem]), ar_nil _ _, by_nil, HBY.out⟩).mono ?_
    rintro e w1 ⟨U, Uc, U2, Uc2, rfl, hU, ⟨xu, rfl⟩⟩
    have HU := Lib.hid hU
    clear hU
    go_wp2_with fail
    refine (more_v _ (H.out.plus (by repeat' (first | exact Plus.refl _ | refine Plus.alloc ?_ _ | refine Plus.plus ?_ _ | refine Plus.drew ?_ | refine Plus.drewN ?_ _))) HSM H4 (by omega) (by omega) ⟨(ar_new1 _ v 5 (by simp [go_sem])).plus (Plus.alloc (Plus.refl _) _), ar_nil _ _, ar_new1 _ (-1) 3 (by simp [go_sem]), HBY.out, by_nil⟩).mono ?_
    rintro e w1 ⟨S, Sc, S2, Sc2, rfl, hS, ⟨xs, rfl⟩⟩
    have HS := Lib.hid hS
    clear hS
    go_wp2_with fail
    refine (more_v _ (H.out.plus (by repeat' (first | exact Plus.refl _ | refine Plus.alloc ?_ _ | refine Plus.plus ?_ _ | refine Plus.drew ?_ | refine Plus.drewN ?_ _))) HSM H4 (by omega) (by omega) ⟨(ar_new1 _ v 5 (by simp [go_sem])).plus (Plus.alloc (Plus.refl _) _), ar_nil _ _, ar_new1 _ (n : Int) 3 (by simp [go_sem]), HBY.out, by_nil⟩).mono ?_
    rintro e w1 ⟨T, Tc, T2, Tc2, rfl, hT, ⟨xt, rfl⟩⟩
    have HT := Lib.hid hT
    clear hT
    go_wp2_with (go_at_call 9; (with_reducible refine (first_c _).mono ?_); rintro e w1 ⟨rfl, ⟨y9, rfl⟩⟩)
    refine (may_s _ HNa (HV.out.plus (by repeat' (first | exact Plus.refl _ | refine Plus.alloc ?_ _ | refine Plus.plus ?_ _ | refine Plus.drew ?_ | refine Plus.drewN ?_ _)))).mono ?_
    rintro e xw ⟨rfl, ⟨z1, rfl⟩⟩
    go_wp2_with fail
    refine (may_s _ HNb (HU.out.plus (by repeat' (first | exact Plus.refl _ | refine Plus.alloc ?_ _ | refine Plus.plus ?_ _ | refine Plus.drew ?_ | refine Plus.drewN ?_ _)))).mono ?_
    rintro e xw ⟨rfl, ⟨z2, rfl⟩⟩
    go_wp2_with fail
    refine (may_s _ HNc (HS.out.plus (by repeat' (first | exact Plus.refl _ | refine Plus.alloc ?_ _ | refine Plus.plus ?_ _ | refine Plus.drew ?_ | refine Plus.drewN ?_ _)))).mono ?_
    rintro e xw ⟨rfl, ⟨z3, rfl⟩⟩
    go_wp2_with fail
    refine (may_s _ HNd (HT.out.plus (by repeat' (first | exact Plus.refl _ | refine Plus.alloc ?_ _ | refine Plus.plus ?_ _ | refine Plus.drew ?_ | refine Plus.drewN ?_ _)))).mono ?_
    rintro e xw ⟨rfl, ⟨z4, rfl⟩⟩
    go_wp2_with fail
    go_returns
    exact ⟨ret_bool (by simp [hv]), (by repeat' (first | exact Plus.refl _ | refine Plus.alloc ?_ _ | refine Plus.plus ?_ _ | refine Plus.drew ?_ | refine Plus.drewN ?_ _))⟩
  · go_returns
    exact ⟨rfl, (by repeat' (first | exact Plus.refl _ | refine Plus.alloc ?_ _ | refine Plus.plus ?_ _ | refine Plus.drew ?_ | refine Plus.drewN ?_ _))⟩
set_option maxRecDepth 100000 in
set_option maxHeartbeats 16000000 in
theorem more_n {l : List Ev} {ps : List Pr} {A B : Option Addr} {n c m d : Nat} {q v : Int} (w : World) (H : Hid (Lg w l ps A n c B m d)) (HM0 : Hid (MayR l ps true)) (hq0 : 0 ≤ q) (hq1 : q ≤ 63) (HSM : Hid (SmL l)) (H4 : Hid (l.take (hdN (n : Int) l.length) = l ∧ ps.filter (amB (hdN (n : Int) l.length)) = ps ∧ n = l.length ∧ m = ps.length)) (hm : m ≤ 1000) (HBY : Hid (By [v])) (HMa : Hid (n ≤ 300 → MayR (l ++ [⟨q, 0, false, false, 0, 0, 0, [], [], []⟩]) ps true)) (HMb : Hid (n ≤ 300 → MayR (l ++ [⟨q, 2, false, false, 0, 0, 1, [], [v], []⟩]) ps true)) (HMc : Hid (n ≤ 300 → MayR (l ++ [⟨q, 1, false, false, 0, 0, 1, [v], [], [-1]⟩]) ps false)) (HMd : Hid (n ≤ 300 → MayR (l ++ [⟨q, 1, false, false, 0, 0, 1, [v], [], [(n : Int)]⟩]) ps false)) (hv : (v == 0) = false) : Calls Try.prog 8 #[.agg #[.slice A n c, .slice B m d], .int .i64 q, .int .u8 v] w fun e w' => e = .returned (.bool true) ∧ Plus w w' := by
  go_enter Try.func8, Try.ntmps8
  go_wp2_with (first | (go_at_call 9; (with_reducible refine (first_c _).mono ?_); rintro e w1 ⟨rfl, ⟨y0, rfl⟩⟩) | (go_at_call 10; (with_reducible refine (few_t _ (H.out.plus (by repeat' (first | exact Plus.refl _ | refine Plus.alloc ?_ _ | refine Plus.plus ?_ _ | refine Plus.drew ?_ | refine Plus.drewN ?_ _)))).mono ?_); rintro e w1 ⟨bf, rfl, hbf, ⟨yf, rfl⟩⟩; have HBF := Lib.hid hbf; clear hbf) | (go_at_call 24; (with_reducible refine (may_s _ HM0 (H.out.plus (by repeat' (first | exact Plus.refl _ | refine Plus.alloc ?_ _ | refine Plus.plus ?_ _ | refine Plus.drew ?_ | refine Plus.drewN ?_ _)))).mono ?_); rintro e xw ⟨rfl, ⟨ym, rfl⟩⟩))
  · have hbf : bf = true := by cases bf <;> simp_all
    subst hbf
    obtain ⟨f1, f2, f3⟩ := HBF.out rfl
    have HNa := Lib.hid (HMa.out (by omega))
    have HNb := Lib.hid (HMb.out (by omega))
    have HNc := Lib.hid (HMc.out (by omega))
    have HNd := Lib.hid (HMd.out (by omega))
    clear HBF f3 HMa HMb HMc HMd
    refine (more_v _ (H.out.plus (by repeat' (first | exact Plus.refl _ | refine Plus.alloc ?_ _ | refine Plus.plus ?_ _ | refine Plus.drew ?_ | refine Plus.drewN ?_ _))) HSM H4 (by omega) (by omega) ⟨ar_nil _ _, ar_nil _ _, ar_nil _ _, by_nil, by_nil⟩).mono ?_
    rintro e w1 ⟨V, Vc, V2, Vc2, rfl, hV, ⟨xv, rfl⟩⟩
    have HV := Lib.hid hV
    clear hV
    go_wp2_with fail
    refine (more_v _ (H.out.plus (by repeat' (first | exact Plus.refl _ | refine Plus.alloc ?_ _ | refine Plus.plus ?_ _ | refine Plus.drew ?_ | refine Plus.drewN ?_ _))) HSM H4 (by omega) (by omega) ⟨ar_nil _ _, ar_new1 _ v 5 (by simp [go_sem]), ar_nil _ _, by_nil, HBY.out⟩).mono ?_
    rintro e w1 ⟨U, Uc, U2, Uc2, rfl, hU, ⟨xu, rfl⟩⟩
    have HU := Lib.hid hU
    clear hU
    go_wp2_with fail
    refine (more_v _ (H.out.plus (by repeat' (first | exact Plus.refl _ | refine Plus.alloc ?_ _ | refine Plus.plus ?_ _ | refine Plus.drew ?_ | refine Plus.drewN ?_ _))) HSM H4 (by omega) (by omega) ⟨(ar_new1 _ v 5 (by simp [go_sem])).plus (Plus.alloc (Plus.refl _) _), ar_nil _ _, ar_new1 _ (-1) 3 (by simp [go_sem]), HBY.out, by_nil⟩).mono ?_
    rintro e w1 ⟨S, Sc, S2, Sc2, rfl, hS, ⟨xs, rfl⟩⟩
    have HS := Lib.hid hS
    clear hS
    go_wp2_with fail
    refine (more_v _ (H.out.plus (by repeat' (first | exact Plus.refl _ | refine Plus.alloc ?_ _ | refine Plus.plus ?_ _ | refine Plus.drew ?_ | refine Plus.drewN ?_ _))) HSM H4 (by omega) (by omega) ⟨(ar_new1 _ v 5 (by simp [go_sem])).plus (Plus.alloc (Plus.refl _) _), ar_nil _ _, ar_new1 _ (n : Int) 3 (by simp [go_sem]), HBY.out, by_nil⟩).mono ?_
    rintro e w1 ⟨T, Tc, T2, Tc2, rfl, hT, ⟨xt, rfl⟩⟩
    have HT := Lib.hid hT
    clear hT
    go_wp2_with (go_at_call 9; (with_reducible refine (first_c _).mono ?_); rintro e w1 ⟨rfl, ⟨y9, rfl⟩⟩)
    refine (may_s _ HNa (HV.out.plus (by repeat' (first | exact Plus.refl _ | refine Plus.alloc ?_ _ | refine Plus.plus ?_ _ | refine Plus.drew ?_ | refine Plus.drewN ?_ _)))).mono ?_
    rintro e xw ⟨rfl, ⟨z1, rfl⟩⟩
    go_wp2_with fail
    refine (may_s _ HNb (HU.out.plus (by repeat' (first | exact Plus.refl _ | refine Plus.alloc ?_ _ | refine Plus.plus ?_ _ | refine Plus.drew ?_ | refine Plus.drewN ?_ _)))).mono ?_
    rintro e xw ⟨rfl, ⟨z2, rfl⟩⟩
    go_wp2_with fail
    refine (may_s _ HNc (HS.out.plus (by repeat' (first | exact Plus.refl _ | refine Plus.alloc ?_ _ | refine Plus.plus ?_ _ | refine Plus.drew ?_ | refine Plus.drewN ?_ _)))).mono ?_
    rintro e xw ⟨rfl, ⟨z3, rfl⟩⟩
    go_wp2_with fail
    refine (may_s _ HNd (HT.out.plus (by repeat' (first | exact Plus.refl _ | refine Plus.alloc ?_ _ | refine Plus.plus ?_ _ | refine Plus.drew ?_ | refine Plus.drewN ?_ _)))).mono ?_
    rintro e xw ⟨rfl, ⟨z4, rfl⟩⟩
    go_wp2_with fail
    go_returns
    exact ⟨ret_bool (by simp [hv]), (by repeat' (first | exact Plus.refl _ | refine Plus.alloc ?_ _ | refine Plus.plus ?_ _ | refine Plus.drew ?_ | refine Plus.drewN ?_ _))⟩
  · go_returns
    exact ⟨rfl, (by repeat' (first | exact Plus.refl _ | refine Plus.alloc ?_ _ | refine Plus.plus ?_ _ | refine Plus.drew ?_ | refine Plus.drewN ?_ _))⟩
end Go.Proofs.Ytcpmkfoelhopiaa
