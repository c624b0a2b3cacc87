/- The document's own May. -/
import Derived.WalkKit
import Derived.WalkSpells
import Derived.WalkLawsBesides
import Derived.Handy
import Derived.Deep.RegionHeld3
import Derived.Deep.DeepCutAuto
import Derived.Deep.QuietTactic
import Derived.BigQuiet
import Derived.Lib.Hide
import Derived.KernelRfl
import Derived.WalkMore
import Derived.Deep.LoopGhost
import Derived.IntWalk
import Derived.Test.YtmfdlcicbiincaaDoorR4
import Derived.Test.YtmfdlcicbiincaaDoorE17
namespace Go.Proofs.YtmfdlcicbiincaaDoor
open Go.RowKit

theorem readR_ex (l : List Ev) (n : Nat) : ∃ r, ReadR l n r := by
  by_cases h : ∀ i, i < (l.getD n default).f.length → readAt (l.take n) (l.getD n default) i
  · exact ⟨true, ⟨fun _ => rfl, fun _ => h⟩⟩
  · exact ⟨false, ⟨fun q => absurd q h, fun q => by cases q⟩⟩
def MyRel (l : List Ev) (s3 : Value) : Prop := ∃ k : Nat, k ≤ l.length ∧ s3 = .int .i64 k ∧ ∀ n, n < k → okEv l n
theorem shp_take {rs : List ER} {k : Nat} (h : ∀ n, n < k → okEv (rs.map (·.e)) n) : ∀ x ∈ rs.take k, shapedM x.e = true := fun x hx => by
  obtain ⟨i, hi, e⟩ := List.getElem_of_mem hx
  rw [List.length_take] at hi
  have q := (h i (by omega)).1
  have e2 : (rs.map (·.e)).getD i default = x.e := by
    rw [← e, List.getElem_take, List.getD_eq_getElem?_getD, List.getElem?_map, List.getElem?_eq_getElem (by omega)]
    rfl
  rw [e2] at q
  exact q
set_option maxRecDepth 100000 in
set_option maxHeartbeats 16000000 in
theorem rmay_h {A B : Option Addr} {rs : List ER} {ps : List Pr} {n c m d : Nat} {r : Bool} (w : World) (H : Hid (MayR (rs.map (·.e)) ps r)) (he : Es w A rs n c) (hp : Pa w B ps m d) (hsm : SmL (rs.map (·.e))) : Calls Tryd.prog 49 #[.agg #[.slice A n c, .slice B m d]] w fun e w' => e = .returned (.bool r) ∧ Plus w w' := by
  obtain rfl := he.len
  obtain rfl := hp.len
  have hcap := he.cap
  have hmax := he.max
  have hcap2 := hp.cap
  have hmax2 := hp.max
  have HE := Lib.hid he
  have HP := Lib.hid hp
  have HSM := Lib.hid hsm
  clear he hp hsm
  by_cases hl : rs.length ≤ 1000
  · by_cases hl2 : ps.length ≤ 1000
    · go_enter Tryd.func49, Tryd.ntmps49
      go_wp2_with fail
      go_loopw [3] (fun s3 wr => MyRel (rs.map (·.e)) s3 ∧ Plus (w.alloc (.cells #[.slice A rs.length c, .slice B ps.length d] 30)) wr) (fun s3 _ => ((rs.length : Int) - intOf s3).toNat)
      case atStart => exact ⟨⟨0, Nat.zero_le _, rfl, fun i h => absurd h (by omega)⟩, Plus.refl _⟩
      case round =>
        obtain ⟨⟨k, hk, rfl, hall⟩, ⟨x, rfl⟩⟩ := hrel
        rw [List.length_map] at hk
        by_cases hlt : k < rs.length
        · obtain ⟨g, o, y, rfl, hx, hxm, hM, h0, h1, h2, h3, h4, h5, h6, h7, h8, h9⟩ := (HE.out.plus (Plus.alloc (Plus.refl _) (.cells #[.slice A rs.length c, .slice B ps.length d] 30) |>.plus x)).at_ hlt
          have hu := getD_map hlt hx
          obtain ⟨l1, l2, l3⟩ := HSM.out y.e (List.mem_map.2 ⟨y, hxm, rfl⟩)
          obtain ⟨⟨g1, k1, s1, t1, b1, a1, z1, xs1, us1, fs1⟩, R1, cr1, W1, cw1, F1, cf1⟩ := y
          simp only at h0 h1 h2 h3 h4 h5 h6 h7 h8 h9 hM hu l1 l2 l3
          have hadd := add_addr g o (k * 10)
          have HFT := Lib.hid (shp_take hall)
          have HALL := Lib.hid hall
          obtain ⟨cs, hcs⟩ : ∃ c, shapedM ⟨g1, k1, s1, t1, b1, a1, z1, xs1, us1, fs1⟩ = c := ⟨_, rfl⟩
          have HS := Lib.hid hcs
          have HU := Lib.hid hu
          cases cs
          · have hr0 : r = false := eq_false_of H.out fun hh => by
              have q := (hh.2.2.2 k (by rw [List.length_map]; exact hlt)).1
              rw [hu, hcs] at q
              cases q
            subst hr0
            clear hu hcs hall hxm hM hx
            go_wp2_with (go_at_call 72; (with_reducible refine (shape_n _ HS rfl rfl rfl l1 l2 l3).mono ?_); rintro e w1 ⟨rfl, ⟨x1, rfl⟩⟩)
            go_returns
            exact ⟨rfl, (by repeat' (first | exact Plus.refl _ | refine Plus.alloc ?_ _ | refine Plus.plus ?_ _ | refine Plus.drew ?_ | refine Plus.drewN ?_ _))⟩
          · have hsh : shapedM ((rs.map (·.e)).getD k default) = true := by rw [hu]; exact hcs
            obtain ⟨rr, hrr⟩ := readR_ex (rs.map (·.e)) k
            have HRD := Lib.hid hrr
            clear hu hcs hall hxm hM hx
            cases rr
            · have hr0 : r = false := eq_false_of H.out fun hh => by
                have q := (hh.2.2.2 k (by rw [List.length_map]; exact hlt)).2
                have := hrr.1 q
                cases this
              subst hr0
              clear hrr
              go_wp2_with (first | (go_at_call 72; (with_reducible refine (shape_n _ HS rfl rfl rfl l1 l2 l3).mono ?_); rintro e w1 ⟨rfl, ⟨x1, rfl⟩⟩) | (go_at_call 73; (with_reducible refine (read_n _ HRD (HE.out.plus (by repeat' (first | exact Plus.refl _ | refine Plus.alloc ?_ _ | refine Plus.plus ?_ _ | refine Plus.drew ?_ | refine Plus.drewN ?_ _))) hlt (by omega) hsh HFT.out).mono ?_); rintro e w1 ⟨rfl, ⟨x2, rfl⟩⟩))
              go_returns
              exact ⟨rfl, (by repeat' (first | exact Plus.refl _ | refine Plus.alloc ?_ _ | refine Plus.plus ?_ _ | refine Plus.drew ?_ | refine Plus.drewN ?_ _))⟩
            · have HOK : Hid (okEv (rs.map (·.e)) k) := Lib.hid ⟨hsh, hrr.2 rfl⟩
              clear hrr
              go_wp2_with (first | (go_at_call 72; (with_reducible refine (shape_n _ HS rfl rfl rfl l1 l2 l3).mono ?_); rintro e w1 ⟨rfl, ⟨x1, rfl⟩⟩) | (go_at_call 73; (with_reducible refine (read_n _ HRD (HE.out.plus (by repeat' (first | exact Plus.refl _ | refine Plus.alloc ?_ _ | refine Plus.plus ?_ _ | refine Plus.drew ?_ | refine Plus.drewN ?_ _))) hlt (by omega) hsh HFT.out).mono ?_); rintro e w1 ⟨rfl, ⟨x2, rfl⟩⟩))
              go_roundw
              case rel => exact ⟨⟨k + 1, by rw [List.length_map]; exact hlt, int_eq (by omega), fun n hn => by
                by_cases e : n = k
                · rw [e]; exact HOK.out
                · exact HALL.out n (by omega)⟩, (by repeat' (first | exact Plus.refl _ | refine Plus.alloc ?_ _ | refine Plus.plus ?_ _ | refine Plus.drew ?_ | refine Plus.drewN ?_ _))⟩
              case measure => simp [intOf]; omega
        · obtain rfl : k = rs.length := by omega
          have HA : Hid (Acc (rs.map (·.e))) := Lib.hid (fun n hn => hall n (by rw [List.length_map] at hn; exact hn))
          clear hall
          go_wp2_with fail
          go_loopw [4] (fun s4 wr => PaRel rs.length ps s4 ∧ Plus (w.alloc (.cells #[.slice A rs.length c, .slice B ps.length d] 30)) wr) (fun s4 _ => ((ps.length : Int) - intOf s4).toNat)
          case atStart => exact ⟨⟨0, Nat.zero_le _, rfl, fun i h => absurd h (by omega)⟩, Plus.is _⟩
          case round =>
            obtain ⟨⟨j, hj, rfl, hall⟩, ⟨x2, rfl⟩⟩ := hrel
            by_cases hjl : j < ps.length
            · obtain ⟨g, o, rfl, hg, hat⟩ := (HP.out.rd.plus (Plus.alloc (Plus.refl _) (.cells #[.slice A rs.length c, .slice B ps.length d] 30) |>.plus x2)) (by omega)
              obtain ⟨hc0, hc1⟩ := hat j hjl
              have hadd := add_addr g o (j * 2)
              have hadd3 := add_addr g (o + j * 2) 1
              obtain ⟨v, hv⟩ : ∃ v, ps.getD j (0, 0) = v := ⟨_, rfl⟩
              rw [hv] at hc0 hc1
              obtain ⟨p, q⟩ := v
              simp only at hc0 hc1
              have HV := Lib.hid hv
              have HALL := Lib.hid hall
              clear hv hall hat
              by_cases hpq : 0 ≤ p ∧ q < rs.length ∧ p < q
              · obtain ⟨e1, e2, e3⟩ := hpq
                have HOK : Hid (pairOk rs.length (p, q)) := Lib.hid ⟨e3, by unfold amongM; simp; omega⟩
                go_wp2_with fail
                go_roundw
                case rel => exact ⟨⟨j + 1, hjl, int_eq (by omega), fun i hi => by
                  by_cases e : i = j
                  · rw [e, HV.out]; exact HOK.out
                  · exact HALL.out i (by omega)⟩, (by repeat' (first | exact Plus.refl _ | refine Plus.alloc ?_ _ | refine Plus.plus ?_ _ | refine Plus.drew ?_ | refine Plus.drewN ?_ _))⟩
                case measure => simp [intOf]; omega
              · have hr0 : r = false := eq_false_of H.out fun hh => by
                  have q1 := hh.2.2.1 j hjl
                  rw [HV.out, List.length_map] at q1
                  obtain ⟨q2, q3⟩ := q1
                  unfold amongM at q3
                  simp at q2 q3
                  exact hpq ⟨by omega, by omega, by omega⟩
                subst hr0
                have hd : p < 0 ∨ (0 ≤ p ∧ (rs.length : Int) ≤ q) ∨ (0 ≤ p ∧ q < rs.length ∧ q ≤ p) := by omega
                clear hpq
                rcases hd with e1 | ⟨e1, e2⟩ | ⟨e1, e2, e3⟩
                all_goals go_wp2_with fail
                all_goals go_returns
                all_goals exact ⟨rfl, (by repeat' (first | exact Plus.refl _ | refine Plus.alloc ?_ _ | refine Plus.plus ?_ _ | refine Plus.drew ?_ | refine Plus.drewN ?_ _))⟩
            · obtain rfl : j = ps.length := by omega
              have hr1 : r = true := H.out.1 ⟨by rw [List.length_map]; exact hl, hl2, fun i hi => by rw [List.length_map]; exact hall i hi, HA.out⟩
              subst hr1
              clear hall
              go_wp2_with fail
              go_returns
              exact ⟨rfl, (by repeat' (first | exact Plus.refl _ | refine Plus.alloc ?_ _ | refine Plus.plus ?_ _ | refine Plus.drew ?_ | refine Plus.drewN ?_ _))⟩
    · have hr0 : r = false := eq_false_of H.out fun hh => hl2 hh.2.1
      subst hr0
      go_enter Tryd.func49, Tryd.ntmps49
      go_wp2_with fail
      go_returns
      exact ⟨rfl, (by repeat' (first | exact Plus.refl _ | refine Plus.alloc ?_ _ | refine Plus.plus ?_ _ | refine Plus.drew ?_ | refine Plus.drewN ?_ _))⟩
  · have hr0 : r = false := eq_false_of H.out fun hh => hl (by have q := hh.1; rw [List.length_map] at q; exact q)
    subst hr0
    go_enter Tryd.func49, Tryd.ntmps49
    go_wp2_with fail
    go_returns
    exact ⟨rfl, (by repeat' (first | exact Plus.refl _ | refine Plus.alloc ?_ _ | refine Plus.plus ?_ _ | refine Plus.drew ?_ | refine Plus.drewN ?_ _))⟩
end Go.Proofs.YtmfdlcicbiincaaDoor
