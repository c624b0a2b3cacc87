/- accepted. -/
import Derived.WalkKit
import Derived.WalkSpells
import Derived.WalkLawsBesides
import Derived.Handy
import Derived.Deep.RegionHeld3
import Derived.Deep.DeepCutAuto
import Derived.Deep.QuietTactic
import Derived.BigQuiet
import Derived.Lib.Hide
import Derived.KernelRfl
import Derived.WalkMore
import Derived.Deep.LoopGhost
import Derived.IntWalk
import Derived.Test.YtmfdlcicbiincaaDoorE7
namespace Go.Proofs.YtmfdlcicbiincaaDoor
open Go.RowKit

def readAt (l : List Ev) (e : Ev) (i : Nat) : Prop := originM l (e.f.getD i 0) e.b (e.a + i) = some (e.r.getD i 0)
instance (l : List Ev) (e : Ev) (i : Nat) : Decidable (readAt l e i) := inferInstanceAs (Decidable (_ = _))
def okEv (l : List Ev) (n : Nat) : Prop := shapedM (l.getD n default) = true ∧ ∀ i, i < (l.getD n default).f.length → readAt (l.take n) (l.getD n default) i
def Acc (l : List Ev) : Prop := ∀ n, n < l.length → okEv l n
/-- m events are accepted, and the next one is not. -/
def AccN (l : List Ev) (m : Nat) : Prop := m ≤ l.length ∧ (∀ n, n < m → okEv l n) ∧ (m < l.length → ¬ okEv l m)
theorem accN_one {l : List Ev} {m k : Nat} (h : AccN l m) (h2 : AccN l k) : m = k := by
  obtain ⟨a1, a2, a3⟩ := h
  obtain ⟨b1, b2, b3⟩ := h2
  rcases Nat.lt_trichotomy m k with h | h | h
  · exact absurd (b2 m h) (a3 (by omega))
  · exact h
  · exact absurd (a2 k h) (b3 (by omega))
theorem accN_ex (l : List Ev) : ∃ m, AccN l m := by
  have q : ∀ k, k ≤ l.length → (∃ m, AccN l m) ∨ ∀ n, n < k → okEv l n := by
    intro k
    induction k with
    | zero => exact fun _ => .inr fun n h => absurd h (by omega)
    | succ k ih =>
      intro hk
      rcases ih (by omega) with h | h
      · exact .inl h
      · by_cases hok : okEv l k
        · exact .inr fun n hn => by
            by_cases e : n = k
            · rw [e]; exact hok
            · exact h n (by omega)
        · exact .inl ⟨k, by omega, h, fun _ => hok⟩
  rcases q l.length (Nat.le_refl _) with h | h
  · exact h
  · exact ⟨l.length, Nat.le_refl _, h, fun h => absurd h (by omega)⟩
theorem accN_acc {l : List Ev} {m : Nat} (h : AccN l m) : m = l.length ↔ Acc l := by
  obtain ⟨a1, a2, a3⟩ := h
  constructor
  · intro e
    subst e
    exact a2
  · intro a
    rcases Nat.lt_or_ge m l.length with h | h
    · exact absurd (a m h) (a3 h)
    · omega
def RetAcc (l : List Ev) (w : World) (e : Ending) (w' : World) : Prop := ∃ m : Nat, AccN l m ∧ e = .returned (.int .i64 m) ∧ Plus w w'
def AcRel (l : List Ev) (s3 s12 : Value) : Prop := ∃ k : Nat, k ≤ l.length ∧ s3 = .int .i64 k ∧ s12 = .int .i64 k ∧ ∀ n, n < k → okEv l n
def InRel (l : List Ev) (e : Ev) (s23 : Value) : Prop := ∃ j : Nat, j ≤ e.f.length ∧ s23 = .int .i64 j ∧ ∀ i, i < j → readAt l e i
theorem acc_no {l : List Ev} {k : Nat} (ha : ∀ n, n < k → okEv l n) (hk : k < l.length) (h : ¬ okEv l k) {w w' : World} {e : Ending} (he : e = .returned (.int .i64 k)) (hp : Plus w w') : RetAcc l w e w' :=
  ⟨k, ⟨Nat.le_of_lt hk, ha, fun _ => h⟩, he, hp⟩
theorem shp_f {e : Ev} (h : shapedM e = true) : e.f.length = e.r.length ∧ e.f.length ≤ 8 ∧ 0 ≤ e.a ∧ e.a ≤ 256 := by
  unfold shapedM at h
  simp only [Bool.and_eq_true] at h
  obtain ⟨⟨_, _⟩, h⟩ := h
  by_cases k0 : e.k = 0
  · rw [if_pos k0] at h
    have q := of_decide_eq_true h
    rw [q]
    simp [syncOf]
  · rw [if_neg k0] at h
    by_cases k1 : e.k = 1
    · rw [if_pos k1] at h
      unfold rangedM filledM at h
      simp at h
      omega
    · rw [if_neg k1] at h
      by_cases k2 : e.k = 2
      · rw [if_pos k2] at h
        unfold rangedM filledM at h
        simp only [Bool.and_eq_true, beq_iff_eq, decide_eq_true_eq] at h
        omega
      · rw [if_neg k2] at h
        by_cases k3 : e.k = 3
        · rw [if_pos k3] at h
          unfold rangedM filledM at h
          simp at h
          omega
        · rw [if_neg k3] at h
          cases h
theorem fit_take {rs : List ER} {k : Nat} (h : ∀ n, n < k → okEv (rs.map (·.e)) n) : ∀ x ∈ rs.take k, Fit x.e := fun x hx => by
  obtain ⟨i, hi, e⟩ := List.getElem_of_mem hx
  rw [List.length_take] at hi
  have q := (h i (by omega)).1
  have e2 : (rs.map (·.e)).getD i default = x.e := by
    rw [← e, List.getElem_take, List.getD_eq_getElem?_getD, List.getElem?_map, List.getElem?_eq_getElem (by omega)]
    rfl
  rw [e2] at q
  exact fit_of _ q
theorem getD_map {rs : List ER} {k : Nat} (hk : k < rs.length) {x : ER} (h : rs.getD k default = x) : (rs.map (·.e)).getD k default = x.e := by
  rw [← h, List.getD_eq_getElem?_getD, List.getD_eq_getElem?_getD, List.getElem?_map, List.getElem?_eq_getElem hk]
  rfl
theorem origin_v {A : Option Addr} {rs : List ER} {n c : Nat} {fr blk p : Int} {v : Int} {b : Bool} (w : World) (H : Hid ((originM (rs.map (·.e)) fr blk p).getD 0 = v ∧ (originM (rs.map (·.e)) fr blk p).isSome = b)) (hes : Es w A rs n c) (hfit : Hid (∀ x ∈ rs, Fit x.e)) (hp0 : 0 ≤ p) (hp1 : p ≤ 10000) (hn : n ≤ 100000) : Calls Tryd.prog 78 #[.slice A n c, .int .i64 fr, .int .i64 blk, .int .i64 p] w fun e w' => e = .returned (.tuple #[.int .u8 v, .bool b]) ∧ Plus w w' := by
  rw [← H.out.1, ← H.out.2]
  exact origin_n w (Lib.hid rfl) hes hfit.out hp0 hp1 hn
set_option maxRecDepth 100000 in
set_option maxHeartbeats 4000000 in
theorem accepted_c {A : Option Addr} {rs : List ER} {n c : Nat} (w : World) (hes : Es w A rs n c) (hn : n ≤ 100000) : Calls Tryd.prog 58 #[.slice A n c] w (RetAcc (rs.map (·.e)) w) := by
  obtain rfl := hes.len
  have H := Lib.hid hes
  have hcap := hes.cap
  have hmax := hes.max
  clear hes
  go_enter Tryd.func58, Tryd.ntmps58
  go_wp2
  go_step3
  go_wp2
  go_step3
  go_wp2
  go_loopw [3, 12] (fun s3 s12 wr => AcRel (rs.map (·.e)) s3 s12 ∧ Plus w wr) (fun _ s12 _ => ((rs.length : Int) - intOf s12).toNat)
  case atStart => exact ⟨⟨0, by omega, rfl, rfl, fun n h => absurd h (by omega)⟩, Plus.refl _⟩
  case round =>
    obtain ⟨⟨k, hk, rfl, rfl, hall⟩, hp⟩ := hrel
    rw [List.length_map] at hk
    obtain ⟨x0, rfl⟩ := hp
    by_cases hlt : k < rs.length
    · obtain ⟨g, o, x, rfl, hx, hxm, hM, h0, h1, h2, h3, h4, h5, h6, h7, h8, h9⟩ := (H.out.plus (Plus.is x0)).at_ hlt
      have hu := getD_map hlt hx
      have HT := Lib.hid (H.out.take k (Nat.le_of_lt hlt))
      have hfit := fit_take hall
      obtain ⟨⟨g1, k1, s1, t1, b1, a1, z1, xs1, us1, fs1⟩, R1, cr1, W1, cw1, F1, cf1⟩ := x
      simp only at h0 h1 h2 h3 h4 h5 h6 h7 h8 h9 hM hu
      have HM := Lib.hid (show EM (plus w x0) R1 W1 F1 xs1 us1 fs1 xs1.length cr1 us1.length cw1 fs1.length cf1 from hM)
      have hadd := add_addr g o (k * 10)
      obtain ⟨cs, hcs⟩ : ∃ c, shapedM ⟨g1, k1, s1, t1, b1, a1, z1, xs1, us1, fs1⟩ = c := ⟨_, rfl⟩
      have HS := Lib.hid hcs
      have HU := Lib.hid hu
      have HALL := Lib.hid hall
      have HFT := Lib.hid hfit
      clear hM hcs hu hall hfit hxm hx
      cases cs
      · go_wp2_with (go_at_call 77; (with_reducible refine (shaped_n _ HS (HM.out.plus (by repeat' (first | exact Plus.refl _ | refine Plus.alloc ?_ _ | refine Plus.plus ?_ _ | refine Plus.drew ?_ | refine Plus.drewN ?_ _)))).mono ?_); rintro e w1 ⟨rfl, ⟨x1, rfl⟩⟩)
        rw [Exit.noGoto_ret]
        go_returns
        exact acc_no HALL.out (by rw [List.length_map]; exact hlt) (fun hh => by have q := hh.1; rw [HU.out, HS.out] at q; cases q) rfl (by repeat' (first | exact Plus.refl _ | refine Plus.alloc ?_ _ | refine Plus.plus ?_ _ | refine Plus.drew ?_ | refine Plus.drewN ?_ _))
      · obtain ⟨f1, f2, f3, f4⟩ := shp_f HS.out
        simp only at f1 f2 f3 f4
        have HF1 := Lib.hid f1
        clear f1
        go_wp2_with (go_at_call 77; (with_reducible refine (shaped_n _ HS (HM.out.plus (by repeat' (first | exact Plus.refl _ | refine Plus.alloc ?_ _ | refine Plus.plus ?_ _ | refine Plus.drew ?_ | refine Plus.drewN ?_ _)))).mono ?_); rintro e w1 ⟨rfl, ⟨x1, rfl⟩⟩)
        go_loopw [23] (fun s23 wr => InRel ((rs.take k).map (·.e)) ⟨g1, k1, s1, t1, b1, a1, z1, xs1, us1, fs1⟩ s23 ∧ Plus (plus ((plus w x0).alloc (.cells #[.int .i64 g1, .int .i64 k1, .bool s1, .bool t1, .int .i64 b1, .int .i64 a1, .int .i64 z1, .slice R1 xs1.length cr1, .slice W1 us1.length cw1, .slice F1 fs1.length cf1] 42)) x1) wr) (fun s23 _ => ((fs1.length : Int) - intOf s23).toNat)
        case atStart => exact ⟨⟨0, by omega, rfl, fun n h => absurd h (by omega)⟩, Plus.refl _⟩
        case round =>
          obtain ⟨⟨j, hj, rfl, hin⟩, ⟨y, rfl⟩⟩ := hrel
          simp only at hj
          by_cases hjl : j < fs1.length
          · obtain ⟨g2, o2, e2, hg2, hat⟩ := (HM.out.plus (Plus.alloc (Plus.refl _) (.cells #[.int .i64 g1, .int .i64 k1, .bool s1, .bool t1, .int .i64 b1, .int .i64 a1, .int .i64 z1, .slice R1 xs1.length cr1, .slice W1 us1.length cw1, .slice F1 fs1.length cf1] 42) |>.plus x1 |>.plus y)).ef.rd.at_ hjl
            have e2' : F1 = _ := e2
            subst e2'
            have hcf := hat j hjl
            obtain ⟨g3, o3, e3, hg3, hat3⟩ := (HM.out.plus (Plus.alloc (Plus.refl _) (.cells #[.int .i64 g1, .int .i64 k1, .bool s1, .bool t1, .int .i64 b1, .int .i64 a1, .int .i64 z1, .slice R1 xs1.length cr1, .slice W1 us1.length cw1, .slice (some ⟨g2, o2, none⟩) fs1.length cf1] 42) |>.plus x1 |>.plus y)).er.rd.at_ (j := j) (by rw [← HF1.out]; exact hjl)
            have e3' : R1 = _ := e3
            subst e3'
            have hcr : ∀ z, (plus (plus (plus ((plus w x0).alloc (.cells #[.int .i64 g1, .int .i64 k1, .bool s1, .bool t1, .int .i64 b1, .int .i64 a1, .int .i64 z1, .slice (some ⟨g3, o3, none⟩) xs1.length cr1, .slice W1 us1.length cw1, .slice (some ⟨g2, o2, none⟩) fs1.length cf1] 42)) x1) y) z).cell? ⟨g3, o3 + j, none⟩ = some (.int .u8 (xs1.getD j 0)) := fun z => (cell?_plus _ z _ _ hg3).trans (hat3 j (by rw [← HF1.out]; exact hjl))
            obtain ⟨fr, hfr⟩ : ∃ v, fs1.getD j 0 = v := ⟨_, rfl⟩
            obtain ⟨rv, hrv⟩ : ∃ v, xs1.getD j 0 = v := ⟨_, rfl⟩
            rw [hfr] at hcf
            have hcr2 := hcr
            rw [hrv] at hcr2
            have hadd2 := add_addr g2 o2 j
            have hadd3 := add_addr g3 o3 j
            obtain ⟨ov, hov⟩ : ∃ v, (originM ((rs.take k).map (·.e)) fr b1 (a1 + j)) = v := ⟨_, rfl⟩
            have HRA : Hid (readAt ((rs.take k).map (·.e)) ⟨g1, k1, s1, t1, b1, a1, z1, xs1, us1, fs1⟩ j ↔ ov = some rv) := Lib.hid (by unfold readAt; simp only; rw [hfr, hrv, hov])
            have HIN := Lib.hid hin
            have hw := IntWalk.i64_in (a1 + j) (by omega)
            have hjx : j < xs1.length := by rw [← HF1.out]; exact hjl
            clear hin hcr hat hat3 e2 e3 hfr hrv
            rcases ov with _ | v
            · have HO : Hid ((originM ((rs.take k).map (·.e)) fr b1 (a1 + j)).getD 0 = 0 ∧ (originM ((rs.take k).map (·.e)) fr b1 (a1 + j)).isSome = false) := Lib.hid (by rw [hov]; exact ⟨rfl, rfl⟩)
              have HNO : Hid (¬ readAt ((rs.take k).map (·.e)) ⟨g1, k1, s1, t1, b1, a1, z1, xs1, us1, fs1⟩ j) := Lib.hid (by rw [HRA.out]; simp)
              clear hov
              go_wp2_with fail
              refine wp_region_plus (by kernel_rfl) (by kernel_rfl) ?_
              repeat (go_big_quiet_step (((go_at_call 78; exact calls_plus (origin_v _ HO (HT.out.plus (by repeat' (first | exact Plus.refl _ | refine Plus.alloc ?_ _ | refine Plus.plus ?_ _ | refine Plus.drew ?_ | refine Plus.drewN ?_ _))) HFT (by omega) (by omega) (by omega))))))
              refine wpQuiet_nil ?_
              intro _ hw'
              obtain ⟨z, rfl⟩ := hw'
              clear hw
              go_wp2_with fail
              rw [Exit.noGoto_ret]
              go_returns
              exact acc_no HALL.out (by rw [List.length_map]; exact hlt) (fun hh => HNO.out (by have q := hh.2 j (by rw [HU.out]; exact hjl); rw [HU.out, ← List.map_take] at q; exact q)) rfl (by repeat' (first | exact Plus.refl _ | refine Plus.alloc ?_ _ | refine Plus.plus ?_ _ | refine Plus.drew ?_ | refine Plus.drewN ?_ _))
            · have HO : Hid ((originM ((rs.take k).map (·.e)) fr b1 (a1 + j)).getD 0 = v ∧ (originM ((rs.take k).map (·.e)) fr b1 (a1 + j)).isSome = true) := Lib.hid (by rw [hov]; exact ⟨rfl, rfl⟩)
              clear hov
              by_cases hv : v = rv
              · subst hv
                have HYES := Lib.hid (HRA.out.2 rfl)
                go_wp2_with fail
                refine wp_region_plus (by kernel_rfl) (by kernel_rfl) ?_
                repeat (go_big_quiet_step (((go_at_call 78; exact calls_plus (origin_v _ HO (HT.out.plus (by repeat' (first | exact Plus.refl _ | refine Plus.alloc ?_ _ | refine Plus.plus ?_ _ | refine Plus.drew ?_ | refine Plus.drewN ?_ _))) HFT (by omega) (by omega) (by omega))))))
                refine wpQuiet_nil ?_
                intro _ hw'
                obtain ⟨z, rfl⟩ := hw'
                clear hw
                go_wp2_with fail
                go_roundw
                case rel => exact ⟨⟨j + 1, hjl, by rw [show ((j + 1 : Nat) : Int) = (j : Int) + 1 by omega], fun i hi => by
                  by_cases e : i = j
                  · rw [e]; exact HYES.out
                  · exact HIN.out i (by omega)⟩, (by repeat' (first | exact Plus.refl _ | refine Plus.alloc ?_ _ | refine Plus.plus ?_ _ | refine Plus.drew ?_ | refine Plus.drewN ?_ _))⟩
                case measure => simp [intOf]; omega
              · have HNO : Hid (¬ readAt ((rs.take k).map (·.e)) ⟨g1, k1, s1, t1, b1, a1, z1, xs1, us1, fs1⟩ j) := Lib.hid (by rw [HRA.out]; simpa using hv)
                have b2 : (v != rv) = true := by simpa using hv
                clear hv
                go_wp2_with fail
                refine wp_region_plus (by kernel_rfl) (by kernel_rfl) ?_
                repeat (go_big_quiet_step (((go_at_call 78; exact calls_plus (origin_v _ HO (HT.out.plus (by repeat' (first | exact Plus.refl _ | refine Plus.alloc ?_ _ | refine Plus.plus ?_ _ | refine Plus.drew ?_ | refine Plus.drewN ?_ _))) HFT (by omega) (by omega) (by omega))))))
                refine wpQuiet_nil ?_
                intro _ hw'
                obtain ⟨z, rfl⟩ := hw'
                clear hw
                go_wp2_with fail
                rw [Exit.noGoto_ret]
                go_returns
                exact acc_no HALL.out (by rw [List.length_map]; exact hlt) (fun hh => HNO.out (by have q := hh.2 j (by rw [HU.out]; exact hjl); rw [HU.out, ← List.map_take] at q; exact q)) rfl (by repeat' (first | exact Plus.refl _ | refine Plus.alloc ?_ _ | refine Plus.plus ?_ _ | refine Plus.drew ?_ | refine Plus.drewN ?_ _))
          · obtain rfl : j = fs1.length := by omega
            have HOK : Hid (okEv (rs.map (·.e)) k) := Lib.hid ⟨by rw [HU.out]; exact HS.out, fun i hi => by rw [HU.out] at hi ⊢; rw [← List.map_take]; exact hin i hi⟩
            clear hin
            go_wp2_with fail
            go_roundw
            case rel => exact ⟨⟨k + 1, by rw [List.length_map]; omega, by rw [show ((k + 1 : Nat) : Int) = (k : Int) + 1 by omega], by rw [show ((k + 1 : Nat) : Int) = (k : Int) + 1 by omega], fun n hn => by
              by_cases e : n = k
              · rw [e]; exact HOK.out
              · exact HALL.out n (by omega)⟩, (by repeat' (first | exact Plus.refl _ | refine Plus.alloc ?_ _ | refine Plus.plus ?_ _ | refine Plus.drew ?_ | refine Plus.drewN ?_ _))⟩
            case measure => simp [intOf]; omega
    · obtain rfl : k = rs.length := by omega
      have HA : Hid (Acc (rs.map (·.e))) := Lib.hid fun n hn => hall n (by rw [List.length_map] at hn; exact hn)
      clear hall
      go_wp2_with fail
      rw [Exit.noGoto_ret]
      go_returns
      exact ⟨rs.length, ⟨by rw [List.length_map]; exact Nat.le_refl _, fun n hn => HA.out n (by rw [List.length_map]; exact hn), fun h => absurd h (by rw [List.length_map]; omega)⟩, rfl, (by repeat' (first | exact Plus.refl _ | refine Plus.alloc ?_ _ | refine Plus.plus ?_ _ | refine Plus.drew ?_ | refine Plus.drewN ?_ _))⟩
theorem accepted_n {A : Option Addr} {rs : List ER} {n c m : Nat} (w : World) (hm : Hid (AccN (rs.map (·.e)) m)) (hes : Es w A rs n c) (hn : n ≤ 100000) : Calls Tryd.prog 58 #[.slice A n c] w fun e w' => e = .returned (.int .i64 m) ∧ Plus w w' :=
  (accepted_c w hes hn).mono fun e w' ⟨k, hk, he, hp⟩ => ⟨by rw [he, accN_one hk hm.out], hp⟩
end Go.Proofs.YtmfdlcicbiincaaDoor
