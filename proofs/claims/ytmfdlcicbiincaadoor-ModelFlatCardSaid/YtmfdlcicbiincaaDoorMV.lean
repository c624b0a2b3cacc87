/- Valid. -/
import Derived.WalkKit
import Derived.WalkSpells
import Derived.WalkLawsBesides
import Derived.Handy
import Derived.Deep.RegionHeld3
import Derived.Deep.DeepCutAuto
import Derived.Deep.QuietTactic
import Derived.BigQuiet
import Derived.Lib.Hide
import Derived.KernelRfl
import Derived.WalkMore
import Derived.Deep.LoopGhost
import Derived.IntWalk
import Derived.Deep.RegionLaw
import Derived.RangeFuncBox
import Derived.Test.YtmfdlcicbiincaaDoorMG
import Derived.Test.YtmfdlcicbiincaaDoorMT
namespace Go.Proofs.YtmfdlcicbiincaaDoor
open Go.RowKit


def VldP (l : List Ev) (ps : List Pr) (n : Nat) (os : List Int) : Prop := ((∀ r, r < n → ¬ CohP l (befB l ps) r) ∧ (∀ r, r < n → ¬ TearP l r)) ∧ OrdP n (befB l ps) os ∧ ∀ r, r < n → ¬ AtoP l (sncB l ps) (befB l ps) os n r
def VldR (l : List Ev) (ps : List Pr) (n : Nat) (os : List Int) (r : Bool) : Prop := VldP l ps n os ↔ r = true
theorem VldR.no {l : List Ev} {ps : List Pr} {n : Nat} {os : List Int} {r : Bool} (h : VldR l ps n os r) (hn : ¬ VldP l ps n os) : r = false := by
  cases r
  · rfl
  · exact absurd (h.2 rfl) hn
set_option maxRecDepth 100000 in
set_option maxHeartbeats 4000000 in
theorem valid_t {l : List Ev} {ps : List Pr} {A B : Option Addr} {n c m d : Nat} {K : Nat} {r : Bool} {O : Option Addr} {os : List Int} {no co : Nat} (w : World) (hL : Lai w) (H : Lg w l ps A n c B m d) (HM0 : Hid (MayR l ps true)) (HMM : Hid (MayP l ps)) (HK : Hid (K = (n + 63) / 64)) (HO : Ar .i64 w O os no co) (HV : Hid (VldR l ps n os r)) : Calls Tryd.prog 33 #[.agg #[.slice A n c, .slice B m d], .slice O no co] w fun e w' => e = .returned (.bool r) ∧ Plus w w' := by
  have HLG := Lib.hid H
  have HLA := Lib.hid hL
  have HOS := Lib.hid HO
  clear H hL HO
  obtain ⟨zc, hzc⟩ := Fst.ex n (CohP l (befB l ps))
  have HZC := Lib.hid hzc
  clear hzc
  by_cases h1 : zc = -1
  · have g1 := HZC.out.none.1 h1
    subst h1
    have HG1 := Lib.hid g1
    obtain ⟨zt, hzt⟩ := Fst.ex n (TearP l)
    have HZT := Lib.hid hzt
    clear hzt g1
    by_cases h2 : zt = -1
    · have g2 := HZT.out.none.1 h2
      subst h2
      have HG2 := Lib.hid g2
      clear g2
      by_cases h3 : OrdP n (befB l ps) os
      · have HORD := Lib.hid h3
        have HZO : Hid (OrdR n (befB l ps) os (-1)) := Lib.hid (.inl ⟨h3, rfl⟩)
        clear h3
        obtain ⟨za, hza⟩ := Fst.ex n (AtoP l (sncB l ps) (befB l ps) os n)
        have HZA := Lib.hid hza
        clear hza
        by_cases h4 : za = -1
        · obtain rfl : r = true := HV.out.1 ⟨⟨HG1.out, HG2.out⟩, HORD.out, HZA.out.none.1 h4⟩
          subst h4
          go_enter Tryd.func33, Tryd.ntmps33
          go_wp2_with (first | (go_at_call 25; (with_reducible refine (coherent_t _ (HLA.out.plus (by repeat' (first | exact Plus.refl _ | refine Plus.alloc ?_ _ | refine Plus.plus ?_ _ | refine Plus.drew ?_ | refine Plus.drewN ?_ _))) (HLG.out.plus (by repeat' (first | exact Plus.refl _ | refine Plus.alloc ?_ _ | refine Plus.plus ?_ _ | refine Plus.drew ?_ | refine Plus.drewN ?_ _))) HM0 HMM HK HZC).mono ?_); rintro e xw ⟨rfl, ⟨y1, rfl⟩⟩) | (go_at_call 27; (with_reducible refine (tear_t _ (HLG.out.plus (by repeat' (first | exact Plus.refl _ | refine Plus.alloc ?_ _ | refine Plus.plus ?_ _ | refine Plus.drew ?_ | refine Plus.drewN ?_ _))) HM0 HMM HZT).mono ?_); rintro e xw ⟨rfl, ⟨y2, rfl⟩⟩) | (go_at_call 29; (with_reducible refine (ordered_t _ (HLA.out.plus (by repeat' (first | exact Plus.refl _ | refine Plus.alloc ?_ _ | refine Plus.plus ?_ _ | refine Plus.drew ?_ | refine Plus.drewN ?_ _))) (HLG.out.plus (by repeat' (first | exact Plus.refl _ | refine Plus.alloc ?_ _ | refine Plus.plus ?_ _ | refine Plus.drew ?_ | refine Plus.drewN ?_ _))) HM0 HMM HK (HOS.out.plus (by repeat' (first | exact Plus.refl _ | refine Plus.alloc ?_ _ | refine Plus.plus ?_ _ | refine Plus.drew ?_ | refine Plus.drewN ?_ _))) HZO).mono ?_); rintro e xw ⟨rfl, ⟨y3, rfl⟩⟩) | (go_at_call 31; (with_reducible refine (atomic_t _ (HLA.out.plus (by repeat' (first | exact Plus.refl _ | refine Plus.alloc ?_ _ | refine Plus.plus ?_ _ | refine Plus.drew ?_ | refine Plus.drewN ?_ _))) (HLG.out.plus (by repeat' (first | exact Plus.refl _ | refine Plus.alloc ?_ _ | refine Plus.plus ?_ _ | refine Plus.drew ?_ | refine Plus.drewN ?_ _))) HM0 HMM HK (HOS.out.plus (by repeat' (first | exact Plus.refl _ | refine Plus.alloc ?_ _ | refine Plus.plus ?_ _ | refine Plus.drew ?_ | refine Plus.drewN ?_ _))) HORD HZA).mono ?_); rintro e xw ⟨rfl, ⟨y4, rfl⟩⟩))
          go_returns
          exact ⟨rfl, (by repeat' (first | exact Plus.refl _ | refine Plus.alloc ?_ _ | refine Plus.plus ?_ _ | refine Plus.drew ?_ | refine Plus.drewN ?_ _))⟩
        · obtain rfl := HV.out.no fun h => h4 (HZA.out.no h.2.2)
          have b4 : (za == -1) = false := beq_false_of_ne h4
          go_enter Tryd.func33, Tryd.ntmps33
          go_wp2_with (first | (go_at_call 25; (with_reducible refine (coherent_t _ (HLA.out.plus (by repeat' (first | exact Plus.refl _ | refine Plus.alloc ?_ _ | refine Plus.plus ?_ _ | refine Plus.drew ?_ | refine Plus.drewN ?_ _))) (HLG.out.plus (by repeat' (first | exact Plus.refl _ | refine Plus.alloc ?_ _ | refine Plus.plus ?_ _ | refine Plus.drew ?_ | refine Plus.drewN ?_ _))) HM0 HMM HK HZC).mono ?_); rintro e xw ⟨rfl, ⟨y1, rfl⟩⟩) | (go_at_call 27; (with_reducible refine (tear_t _ (HLG.out.plus (by repeat' (first | exact Plus.refl _ | refine Plus.alloc ?_ _ | refine Plus.plus ?_ _ | refine Plus.drew ?_ | refine Plus.drewN ?_ _))) HM0 HMM HZT).mono ?_); rintro e xw ⟨rfl, ⟨y2, rfl⟩⟩) | (go_at_call 29; (with_reducible refine (ordered_t _ (HLA.out.plus (by repeat' (first | exact Plus.refl _ | refine Plus.alloc ?_ _ | refine Plus.plus ?_ _ | refine Plus.drew ?_ | refine Plus.drewN ?_ _))) (HLG.out.plus (by repeat' (first | exact Plus.refl _ | refine Plus.alloc ?_ _ | refine Plus.plus ?_ _ | refine Plus.drew ?_ | refine Plus.drewN ?_ _))) HM0 HMM HK (HOS.out.plus (by repeat' (first | exact Plus.refl _ | refine Plus.alloc ?_ _ | refine Plus.plus ?_ _ | refine Plus.drew ?_ | refine Plus.drewN ?_ _))) HZO).mono ?_); rintro e xw ⟨rfl, ⟨y3, rfl⟩⟩) | (go_at_call 31; (with_reducible refine (atomic_t _ (HLA.out.plus (by repeat' (first | exact Plus.refl _ | refine Plus.alloc ?_ _ | refine Plus.plus ?_ _ | refine Plus.drew ?_ | refine Plus.drewN ?_ _))) (HLG.out.plus (by repeat' (first | exact Plus.refl _ | refine Plus.alloc ?_ _ | refine Plus.plus ?_ _ | refine Plus.drew ?_ | refine Plus.drewN ?_ _))) HM0 HMM HK (HOS.out.plus (by repeat' (first | exact Plus.refl _ | refine Plus.alloc ?_ _ | refine Plus.plus ?_ _ | refine Plus.drew ?_ | refine Plus.drewN ?_ _))) HORD HZA).mono ?_); rintro e xw ⟨rfl, ⟨y4, rfl⟩⟩))
          go_returns
          exact ⟨rfl, (by repeat' (first | exact Plus.refl _ | refine Plus.alloc ?_ _ | refine Plus.plus ?_ _ | refine Plus.drew ?_ | refine Plus.drewN ?_ _))⟩
      · obtain rfl := HV.out.no fun h => h3 h.2.1
        have HZO : Hid (OrdR n (befB l ps) os 0) := Lib.hid (.inr ⟨h3, rfl⟩)
        clear h3
        go_enter Tryd.func33, Tryd.ntmps33
        go_wp2_with (first | (go_at_call 25; (with_reducible refine (coherent_t _ (HLA.out.plus (by repeat' (first | exact Plus.refl _ | refine Plus.alloc ?_ _ | refine Plus.plus ?_ _ | refine Plus.drew ?_ | refine Plus.drewN ?_ _))) (HLG.out.plus (by repeat' (first | exact Plus.refl _ | refine Plus.alloc ?_ _ | refine Plus.plus ?_ _ | refine Plus.drew ?_ | refine Plus.drewN ?_ _))) HM0 HMM HK HZC).mono ?_); rintro e xw ⟨rfl, ⟨y1, rfl⟩⟩) | (go_at_call 27; (with_reducible refine (tear_t _ (HLG.out.plus (by repeat' (first | exact Plus.refl _ | refine Plus.alloc ?_ _ | refine Plus.plus ?_ _ | refine Plus.drew ?_ | refine Plus.drewN ?_ _))) HM0 HMM HZT).mono ?_); rintro e xw ⟨rfl, ⟨y2, rfl⟩⟩) | (go_at_call 29; (with_reducible refine (ordered_t _ (HLA.out.plus (by repeat' (first | exact Plus.refl _ | refine Plus.alloc ?_ _ | refine Plus.plus ?_ _ | refine Plus.drew ?_ | refine Plus.drewN ?_ _))) (HLG.out.plus (by repeat' (first | exact Plus.refl _ | refine Plus.alloc ?_ _ | refine Plus.plus ?_ _ | refine Plus.drew ?_ | refine Plus.drewN ?_ _))) HM0 HMM HK (HOS.out.plus (by repeat' (first | exact Plus.refl _ | refine Plus.alloc ?_ _ | refine Plus.plus ?_ _ | refine Plus.drew ?_ | refine Plus.drewN ?_ _))) HZO).mono ?_); rintro e xw ⟨rfl, ⟨y3, rfl⟩⟩))
        go_returns
        exact ⟨rfl, (by repeat' (first | exact Plus.refl _ | refine Plus.alloc ?_ _ | refine Plus.plus ?_ _ | refine Plus.drew ?_ | refine Plus.drewN ?_ _))⟩
    · obtain rfl := HV.out.no fun h => h2 (HZT.out.no h.1.2)
      have b2 : (zt == -1) = false := beq_false_of_ne h2
      go_enter Tryd.func33, Tryd.ntmps33
      go_wp2_with (first | (go_at_call 25; (with_reducible refine (coherent_t _ (HLA.out.plus (by repeat' (first | exact Plus.refl _ | refine Plus.alloc ?_ _ | refine Plus.plus ?_ _ | refine Plus.drew ?_ | refine Plus.drewN ?_ _))) (HLG.out.plus (by repeat' (first | exact Plus.refl _ | refine Plus.alloc ?_ _ | refine Plus.plus ?_ _ | refine Plus.drew ?_ | refine Plus.drewN ?_ _))) HM0 HMM HK HZC).mono ?_); rintro e xw ⟨rfl, ⟨y1, rfl⟩⟩) | (go_at_call 27; (with_reducible refine (tear_t _ (HLG.out.plus (by repeat' (first | exact Plus.refl _ | refine Plus.alloc ?_ _ | refine Plus.plus ?_ _ | refine Plus.drew ?_ | refine Plus.drewN ?_ _))) HM0 HMM HZT).mono ?_); rintro e xw ⟨rfl, ⟨y2, rfl⟩⟩))
      go_returns
      exact ⟨rfl, (by repeat' (first | exact Plus.refl _ | refine Plus.alloc ?_ _ | refine Plus.plus ?_ _ | refine Plus.drew ?_ | refine Plus.drewN ?_ _))⟩
  · obtain rfl := HV.out.no fun h => h1 (HZC.out.no h.1.1)
    have b1 : (zc == -1) = false := beq_false_of_ne h1
    go_enter Tryd.func33, Tryd.ntmps33
    go_wp2_with (first | (go_at_call 25; (with_reducible refine (coherent_t _ (HLA.out.plus (by repeat' (first | exact Plus.refl _ | refine Plus.alloc ?_ _ | refine Plus.plus ?_ _ | refine Plus.drew ?_ | refine Plus.drewN ?_ _))) (HLG.out.plus (by repeat' (first | exact Plus.refl _ | refine Plus.alloc ?_ _ | refine Plus.plus ?_ _ | refine Plus.drew ?_ | refine Plus.drewN ?_ _))) HM0 HMM HK HZC).mono ?_); rintro e xw ⟨rfl, ⟨y1, rfl⟩⟩))
    go_returns
    exact ⟨rfl, (by repeat' (first | exact Plus.refl _ | refine Plus.alloc ?_ _ | refine Plus.plus ?_ _ | refine Plus.drew ?_ | refine Plus.drewN ?_ _))⟩
set_option maxRecDepth 100000 in
set_option maxHeartbeats 4000000 in
theorem valid_f {l : List Ev} {ps : List Pr} {A B : Option Addr} {n c m d : Nat} {O : Option Addr} {no co : Nat} (w : World) (H : Lg w l ps A n c B m d) (HM0 : Hid (MayR l ps false)) : Calls Tryd.prog 33 #[.agg #[.slice A n c, .slice B m d], .slice O no co] w fun e w' => e = .returned (.bool false) ∧ Plus w w' := by
  have HLG := Lib.hid H
  clear H
  go_enter Tryd.func33, Tryd.ntmps33
  go_wp2_with (go_at_call 25; (with_reducible refine (coherent_f _ (HLG.out.plus (by repeat' (first | exact Plus.refl _ | refine Plus.alloc ?_ _ | refine Plus.plus ?_ _ | refine Plus.drew ?_ | refine Plus.drewN ?_ _))) HM0).mono ?_); rintro e xw ⟨rfl, ⟨y1, rfl⟩⟩)
  go_returns
  exact ⟨rfl, (by repeat' (first | exact Plus.refl _ | refine Plus.alloc ?_ _ | refine Plus.plus ?_ _ | refine Plus.drew ?_ | refine Plus.drewN ?_ _))⟩
end Go.Proofs.YtmfdlcicbiincaaDoor
