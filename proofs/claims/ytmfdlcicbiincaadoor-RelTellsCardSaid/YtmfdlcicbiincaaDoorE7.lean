/- origin. -/
import Derived.WalkKit
import Derived.WalkSpells
import Derived.WalkLawsBesides
import Derived.Handy
import Derived.Deep.RegionHeld3
import Derived.Deep.DeepCutAuto
import Derived.Deep.QuietTactic
import Derived.BigQuiet
import Derived.Lib.Hide
import Derived.KernelRfl
import Derived.WalkMore
import Derived.Deep.LoopGhost
import Derived.IntWalk
import Derived.Test.YtmfdlcicbiincaaDoorE6
namespace Go.Proofs.YtmfdlcicbiincaaDoor
open Go.RowKit

/-- What the event of that number wrote there. -/
def originM (l : List Ev) (fr blk p : Int) : Option Int :=
  if fr = -1 then some 0
  else if fr < 0 ∨ (l.length : Int) ≤ fr then none
  else
    let u := l.getD fr.toNat default
    if writesM u.k = false ∨ u.b ≠ blk ∨ p < u.a ∨ u.a + u.z ≤ p then none else some (u.w.getD (p - u.a).toNat 0)
/-- An event that writes has all its bytes, at a small place. -/
def Fit (e : Ev) : Prop := writesM e.k = true → 0 ≤ e.a ∧ e.a ≤ 256 ∧ 0 ≤ e.z ∧ e.z ≤ 8 ∧ (e.w.length : Int) = e.z
theorem fit_of (e : Ev) (h : shapedM e = true) : Fit e := fun hw => by
  unfold shapedM at h
  unfold writesM at hw
  simp only [Bool.and_eq_true] at h
  obtain ⟨⟨_, _⟩, h⟩ := h
  by_cases k2 : e.k = 2
  · rw [if_neg (by omega), if_neg (by omega), if_pos k2] at h
    unfold rangedM filledM at h
    simp at h
    omega
  · have k3 : e.k = 3 := by simp at hw; omega
    rw [if_neg (by omega), if_neg (by omega), if_neg k2, if_pos k3] at h
    unfold rangedM filledM at h
    simp at h
    omega
def RetO (r : Option Int) (w : World) (e : Ending) (w' : World) : Prop := e = .returned (.tuple #[.int .u8 (r.getD 0), .bool r.isSome]) ∧ Plus w w'
theorem writes_n {g k b a z : Int} {s t : Bool} {R W F : Option Addr} {nr cr nw cw nf cf : Nat} {c : Bool} (h : Hid (writesM k = c)) (w : World) : Calls Tryd.prog 68 #[Value.agg #[.int .i64 g, .int .i64 k, .bool s, .bool t, .int .i64 b, .int .i64 a, .int .i64 z, .slice R nr cr, .slice W nw cw, .slice F nf cf]] w fun e w' => e = .returned (.bool c) ∧ Plus w w' := by
  rw [← h.out]
  exact writes_c w
set_option maxRecDepth 100000 in
set_option maxHeartbeats 4000000 in
theorem origin_n {A : Option Addr} {rs : List ER} {n c : Nat} {fr blk p : Int} {r : Option Int} (w : World) (H : Hid (originM (rs.map (·.e)) fr blk p = r)) (hes : Es w A rs n c) (hfit : ∀ x ∈ rs, Fit x.e) (hp0 : 0 ≤ p) (hp1 : p ≤ 10000) (hn : n ≤ 100000) : Calls Tryd.prog 78 #[.slice A n c, .int .i64 fr, .int .i64 blk, .int .i64 p] w (RetO r w) := by
  rw [← H.out]
  clear H
  have hlen := hes.len
  unfold originM
  by_cases f1 : fr = -1
  · subst f1
    rw [if_pos rfl]
    clear hes hlen
    go_enter Tryd.func78, Tryd.ntmps78
    go_wp2_with fail
    go_returns
    exact ⟨rfl, (by repeat' (first | exact Plus.refl _ | refine Plus.alloc ?_ _ | refine Plus.plus ?_ _ | refine Plus.drew ?_ | refine Plus.drewN ?_ _))⟩
  · rw [if_neg f1]
    by_cases f2 : fr < 0 ∨ (n : Int) ≤ fr
    · have f3 : fr < 0 ∨ ((rs.map (·.e)).length : Int) ≤ fr := by rw [List.length_map]; omega
      rw [if_pos f3]
      have d1 : (fr == -1) = false := by simpa using f1
      clear hes hlen f1 f3
      rcases f2 with f2 | f2
      all_goals
        go_enter Tryd.func78, Tryd.ntmps78
        go_wp2_with fail
      all_goals go_returns
      all_goals exact ⟨rfl, (by repeat' (first | exact Plus.refl _ | refine Plus.alloc ?_ _ | refine Plus.plus ?_ _ | refine Plus.drew ?_ | refine Plus.drewN ?_ _))⟩
    · have f3 : ¬ (fr < 0 ∨ ((rs.map (·.e)).length : Int) ≤ fr) := by rw [List.length_map]; omega
      rw [if_neg f3]
      obtain ⟨m, rfl⟩ : ∃ m : Nat, fr = (m : Int) := ⟨fr.toNat, by omega⟩
      have hm : m < n := by omega
      obtain ⟨g, o, x, rfl, hx, hxm, hM, h0, h1, h2, h3, h4, h5, h6, h7, h8, h9⟩ := hes.at_ hm
      have hu : (rs.map (·.e)).getD (m : Int).toNat default = x.e := by
        have hl : m < rs.length := by omega
        rw [← hx, List.getD_eq_getElem?_getD, List.getD_eq_getElem?_getD, List.getElem?_map, Int.toNat_natCast, List.getElem?_eq_getElem hl]
        rfl
      rw [hu]
      have hF := hfit x hxm
      obtain ⟨⟨g1, k1, s1, t1, b1, a1, z1, xs1, us1, fs1⟩, R1, cr1, W1, cw1, F1, cf1⟩ := x
      simp only at h0 h1 h2 h3 h4 h5 h6 h7 h8 h9 hF hM ⊢
      have hMM := Lib.hid hM
      have hadd := add_addr g o (m * 10)
      have hcap := hes.cap
      have d1 : ((m : Int) == -1) = false := by simp
      obtain ⟨cw, hcw⟩ : ∃ c, writesM k1 = c := ⟨_, rfl⟩
      have HW := Lib.hid hcw
      rw [hcw]
      clear hes hlen f1 f2 f3 hu hx hxm hfit hM
      cases cw
      · rw [if_pos (.inl rfl)]
        clear hcw hF
        go_enter Tryd.func78, Tryd.ntmps78
        go_wp2_with (go_at_call 68; (with_reducible refine (writes_n HW _).mono ?_); rintro e w1 ⟨rfl, ⟨x1, rfl⟩⟩)
        all_goals go_returns
        all_goals exact ⟨rfl, (by repeat' (first | exact Plus.refl _ | refine Plus.alloc ?_ _ | refine Plus.plus ?_ _ | refine Plus.drew ?_ | refine Plus.drewN ?_ _))⟩
      · obtain ⟨q1, q2, q3, q4, q5⟩ := hF hcw
        clear hF hcw
        by_cases hb : b1 = blk
        · subst hb
          by_cases hp : p < a1 ∨ a1 + z1 ≤ p
          · rw [if_pos (.inr (.inr hp))]
            simp only at q1 q2 q3 q4 q5
            clear q5
            rcases hp with hp | hp
            all_goals
              go_enter Tryd.func78, Tryd.ntmps78
              go_wp2_with (go_at_call 68; (with_reducible refine (writes_n HW _).mono ?_); rintro e w1 ⟨rfl, ⟨x1, rfl⟩⟩)
            all_goals go_returns
            all_goals exact ⟨rfl, (by repeat' (first | exact Plus.refl _ | refine Plus.alloc ?_ _ | refine Plus.plus ?_ _ | refine Plus.drew ?_ | refine Plus.drewN ?_ _))⟩
          · rw [if_neg (by rintro (h | h | h) <;> simp_all)]
            simp only at q1 q2 q3 q4 q5
            obtain ⟨j, hj⟩ : ∃ j : Nat, p = a1 + (j : Int) := ⟨(p - a1).toNat, by omega⟩
            subst hj
            have hjl : j < us1.length := by omega
            obtain ⟨g2, o2, e2, hg2, hat⟩ := hMM.out.ew.rd.at_ hjl
            have e2' : W1 = _ := e2
            subst e2'
            have hc := hat j hjl
            obtain ⟨v, hv⟩ : ∃ v, us1.getD j 0 = v := ⟨_, rfl⟩
            rw [hv] at hc
            have hadd2 := add_addr g2 o2 j
            have hjj : (a1 + (j : Int) - a1) = (j : Int) := by omega
            rw [hjj, Int.toNat_natCast, hv]
            have hz : z1 = (us1.length : Int) := q5.symm
            have hj2 : ((j : Nat) : Int) < (us1.length : Int) := by omega
            clear hat hv e2 q5 hjl
            subst hz
            haveI : Old g2 w := ⟨hg2⟩
            go_enter Tryd.func78, Tryd.ntmps78
            go_wp2_with (go_at_call 68; (with_reducible refine (writes_n HW _).mono ?_); rintro e w1 ⟨rfl, ⟨x1, rfl⟩⟩)
            all_goals go_returns
            all_goals exact ⟨rfl, (by repeat' (first | exact Plus.refl _ | refine Plus.alloc ?_ _ | refine Plus.plus ?_ _ | refine Plus.drew ?_ | refine Plus.drewN ?_ _))⟩
        · rw [if_pos (.inr (.inl hb))]
          have b2 : (b1 != blk) = true := by simpa using hb
          clear hb q5
          go_enter Tryd.func78, Tryd.ntmps78
          go_wp2_with (go_at_call 68; (with_reducible refine (writes_n HW _).mono ?_); rintro e w1 ⟨rfl, ⟨x1, rfl⟩⟩)
          all_goals go_returns
          all_goals exact ⟨rfl, (by repeat' (first | exact Plus.refl _ | refine Plus.alloc ?_ _ | refine Plus.plus ?_ _ | refine Plus.drew ?_ | refine Plus.drewN ?_ _))⟩
end Go.Proofs.YtmfdlcicbiincaaDoor
