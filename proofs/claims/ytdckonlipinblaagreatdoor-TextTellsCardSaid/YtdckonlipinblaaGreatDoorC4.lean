/- Contracts: Less, Same. -/
import Derived.Test.YtdckonlipinblaaGreatDoorC3
namespace Go.Proofs.YtdckonlipinblaaGreatDoor
open Go.RowKit


/-- How two lists are ordered. -/
def cmpL : List Nat → List Nat → Int
  | [], [] => 0
  | [], _ :: _ => -1
  | _ :: _, [] => 1
  | a :: l, b :: r => if a < b then -1 else if b < a then 1 else cmpL l r
theorem drop_cons {xs : List Nat} {k : Nat} (h : k < xs.length) : xs.drop k = xs.getD k 0 :: xs.drop (k + 1) := by
  rw [List.drop_eq_getElem_cons h, List.getD_eq_getElem?_getD, List.getElem?_eq_getElem h]
  rfl
theorem drop_end {xs : List Nat} {k : Nat} (h : xs.length ≤ k) : xs.drop k = [] := List.drop_eq_nil_of_le h
theorem isNaN_c (x : Nat) (w : World) : Calls Tryz.prog 79 #[.int .u16 x] w fun e w' => e = .returned (.bool false) ∧ w = w' := by
  have hb : ((x : Int) != (x : Int)) = false := by simp
  go_enter Tryz.func79, Tryz.ntmps79
  go_wp2
  go_ret
  exact ⟨rfl, rfl⟩
def cmp2 (x y : Nat) : Int := if x < y then -1 else if y < x then 1 else 0
theorem cmp2_c (x y : Nat) (w : World) : Calls Tryz.prog 63 #[.int .u16 x, .int .u16 y] w fun e w' => e = .returned (.int .i64 (cmp2 x y)) ∧ w = w' := by
  rcases Nat.lt_trichotomy x y with h | h | h
  · have d1 : decide ((x : Int) < (y : Int)) = true := by simp [h]
    have d2 : decide (x < y) = true := by simp [h]
    go_enter Tryz.func63, Tryz.ntmps63
    go_wp2_with (go_at_call 79; refine (isNaN_c _ _).mono ?_; rintro e w1 ⟨rfl, rfl⟩)
    go_ret
    exact ⟨by unfold cmp2; rw [if_pos h]; rfl, rfl⟩
  · subst h
    go_enter Tryz.func63, Tryz.ntmps63
    go_wp2_with (go_at_call 79; refine (isNaN_c _ _).mono ?_; rintro e w1 ⟨rfl, rfl⟩)
    go_ret
    exact ⟨by unfold cmp2; rw [if_neg (by omega), if_neg (by omega)]; rfl, rfl⟩
  · have d1 : decide ((x : Int) < (y : Int)) = false := by simp; omega
    have d2 : decide (x < y) = false := by simp; omega
    have d3 : decide ((y : Int) < (x : Int)) = true := by simp; omega
    have d4 : decide (y < x) = true := by simp; omega
    go_enter Tryz.func63, Tryz.ntmps63
    go_wp2_with (go_at_call 79; refine (isNaN_c _ _).mono ?_; rintro e w1 ⟨rfl, rfl⟩)
    go_ret
    exact ⟨by unfold cmp2; rw [if_neg (by omega), if_pos h]; rfl, rfl⟩
def CmpRel (xs ys : List Nat) (s11 : Value) : Prop := ∃ k : Nat, k ≤ xs.length ∧ k ≤ ys.length ∧ s11 = .int .i64 k ∧ cmpL xs ys = cmpL (xs.drop k) (ys.drop k)
set_option maxRecDepth 100000 in
set_option maxHeartbeats 1000000 in
theorem compare_c (A C : Option Addr) (xs ys : List Nat) (n c m d : Nat) (w : World) (ha : Ar .u16 65536 w A xs n c) (hb : Ar .u16 65536 w C ys m d) :
    Calls Tryz.prog 33 #[.slice A n c, .slice C m d] w fun e w' => e = .returned (.int .i64 (cmpL xs ys)) ∧ w = w' := by
  obtain ⟨hrd, hlen, hcap, hmax, hbd⟩ := ha
  obtain ⟨krd, klen, kcap, kmax, kbd⟩ := hb
  subst hlen klen
  go_enter Tryz.func33, Tryz.ntmps33
  go_wp2
  go_loop [11] (CmpRel xs ys) (fun s => ((xs.length : Int) - intOf s).toNat)
  case atStart => exact ⟨0, by omega, by omega, rfl, rfl⟩
  case round =>
    obtain ⟨k, hk, hk2, rfl, he⟩ := hrel
    by_cases hlt : k < xs.length
    · obtain ⟨g, o, rfl, hg, hat⟩ := hrd.at_ hlt
      have hcell := hat k hlt
      have hadd := add_addr g o k
      have HA1 := Lib.hid (drop_cons hlt)
      have HE := Lib.hid he
      clear he hat
      obtain ⟨v, hv⟩ : ∃ v, xs.getD k 0 = v := ⟨_, rfl⟩
      rw [hv] at hcell
      by_cases hlt2 : k < ys.length
      · obtain ⟨g2, o2, rfl, hg2, hat2⟩ := krd.at_ hlt2
        have hcell2 := hat2 k hlt2
        have hadd2 := add_addr g2 o2 k
        have HA2 := Lib.hid (drop_cons hlt2)
        obtain ⟨u, hu⟩ : ∃ u, ys.getD k 0 = u := ⟨_, rfl⟩
        rw [hu] at hcell2
        have HV := Lib.hid hv
        have HU := Lib.hid hu
        clear hv hu hat2
        rcases Nat.lt_trichotomy v u with h | h | h
        · have hc : cmp2 v u = -1 := by unfold cmp2; rw [if_pos h]
          have HC := Lib.hid hc
          have HR : Hid (cmpL xs ys = -1) := Lib.hid (by rw [HE.out, HA1.out, HA2.out, HV.out, HU.out]; unfold cmpL; rw [if_pos h])
          clear hc
          go_wp2_with (go_at_call 63; refine (cmp2_c _ _ _).mono ?_; rintro e w1 ⟨rfl, rfl⟩; rw [HC.out])
          go_ret
          exact ⟨by rw [HR.out]; rfl, rfl⟩
        · subst h
          have hc : cmp2 v v = 0 := by unfold cmp2; rw [if_neg (by omega), if_neg (by omega)]
          have HC := Lib.hid hc
          have HR : Hid (cmpL xs ys = cmpL (xs.drop (k + 1)) (ys.drop (k + 1))) := Lib.hid (by rw [HE.out, HA1.out, HA2.out, HV.out, HU.out]; conv => lhs; unfold cmpL
                                                                                               rw [if_neg (by omega), if_neg (by omega)])
          clear hc
          go_wp2_with (go_at_call 63; refine (cmp2_c _ _ _).mono ?_; rintro e w1 ⟨rfl, rfl⟩; rw [HC.out])
          go_round
          case rel => exact ⟨k + 1, hlt, hlt2, by rw [show ((k + 1 : Nat) : Int) = (k : Int) + 1 by omega], HR.out⟩
          case measure => simp [intOf]; omega
        · have hc : cmp2 v u = 1 := by unfold cmp2; rw [if_neg (by omega), if_pos h]
          have HC := Lib.hid hc
          have HR : Hid (cmpL xs ys = 1) := Lib.hid (by rw [HE.out, HA1.out, HA2.out, HV.out, HU.out]; unfold cmpL; rw [if_neg (by omega), if_pos h])
          clear hc
          go_wp2_with (go_at_call 63; refine (cmp2_c _ _ _).mono ?_; rintro e w1 ⟨rfl, rfl⟩; rw [HC.out])
          go_ret
          exact ⟨by rw [HR.out]; rfl, rfl⟩
      · have HR : Hid (cmpL xs ys = 1) := Lib.hid (by rw [HE.out, HA1.out, drop_end (by omega : ys.length ≤ k)]; rfl)
        obtain rfl : k = ys.length := by omega
        clear hv
        go_wp2
        go_ret
        exact ⟨by rw [HR.out]; rfl, rfl⟩
    · obtain rfl : k = xs.length := by omega
      rw [drop_end (Nat.le_refl _)] at he
      by_cases hlt2 : xs.length < ys.length
      · have HR : Hid (cmpL xs ys = -1) := Lib.hid (by rw [he, drop_cons hlt2]; rfl)
        clear he
        go_wp2
        go_ret
        exact ⟨by rw [HR.out]; rfl, rfl⟩
      · have HR : Hid (cmpL xs ys = 0) := Lib.hid (by rw [he, drop_end (by omega)]; rfl)
        clear he
        go_wp2
        go_ret
        exact ⟨by rw [HR.out]; rfl, rfl⟩
/-- Does xs come before ys? -/
def lessL (xs ys : List Nat) : Bool := decide (cmpL xs ys < 0)
theorem less_c (A C : Option Addr) (xs ys : List Nat) (n c m d : Nat) (w : World) (ha : Ar .u16 65536 w A xs n c) (hb : Ar .u16 65536 w C ys m d) :
    Calls Tryz.prog 12 #[.slice A n c, .slice C m d] w fun e w' => e = .returned (.bool (lessL xs ys)) ∧ w = w' := by
  have HA := Lib.hid ha
  have HB := Lib.hid hb
  clear ha hb
  go_enter Tryz.func12, Tryz.ntmps12
  go_wp2_with (go_at_call 33; refine (compare_c _ _ _ _ _ _ _ _ _ HA.out HB.out).mono ?_; rintro e w1 ⟨rfl, rfl⟩)
  go_ret
  exact ⟨rfl, rfl⟩
end Go.Proofs.YtdckonlipinblaaGreatDoor
