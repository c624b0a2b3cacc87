/- The document's text functions. -/
import Derived.IntWalk
import Derived.Test.YtakahpbondaidaaGreatDoorPZK
namespace Go.Proofs.YtakahpbondaidaaGreatDoor
open Go.RowKit

def dgB (c : Nat) : Bool := decide (48 ≤ c) && decide (c ≤ 57)

theorem rdigit_c (c : Nat) (hc : c < 65536) (w : World) : Calls Tryz.prog 185 #[.int .u16 c] w fun e w' => e = .returned (.bool (dgB c)) ∧ w = w' := by
  have hm : ∀ b : Bool, b = dgB c → (Value.bool b) = .bool (dgB c) := fun b h => by rw [h]
  have HM := Lib.hid hm; clear hm
  go_enter Tryz.func185, Tryz.ntmps185
  go_wp2
  all_goals go_ret
  all_goals refine ⟨congrArg Ending.returned (HM.out _ ?_), rfl⟩
  all_goals (rw [Bool.eq_iff_iff]; simp [dgB]; try omega)

theorem rBlank_c (c : Nat) (w : World) : Calls Tryz.prog 115 #[.int .u16 c] w fun e w' => e = .returned (.bool (blankB c)) ∧ w = w' := by
  by_cases h1 : c = 32
  · subst h1
    go_enter Tryz.func115, Tryz.ntmps115
    go_wp2
    go_ret
    exact ⟨rfl, rfl⟩
  by_cases h2 : c = 9
  · subst h2
    go_enter Tryz.func115, Tryz.ntmps115
    go_wp2
    go_ret
    exact ⟨rfl, rfl⟩
  by_cases h3 : c = 10
  · subst h3
    go_enter Tryz.func115, Tryz.ntmps115
    go_wp2
    go_ret
    exact ⟨rfl, rfl⟩
  by_cases h4 : c = 13
  · subst h4
    go_enter Tryz.func115, Tryz.ntmps115
    go_wp2
    go_ret
    exact ⟨rfl, rfl⟩
  have e : blankB c = false := by unfold blankB; simp [h1, h2, h3, h4]
  have b1 : ((c : Int) == 32) = false := by simp; omega
  have b2 : ((c : Int) == 9) = false := by simp; omega
  have b3 : ((c : Int) == 10) = false := by simp; omega
  have b4 : ((c : Int) == 13) = false := by simp; omega
  rw [e]
  go_enter Tryz.func115, Tryz.ntmps115
  go_wp2
  go_ret
  exact ⟨rfl, rfl⟩

theorem rdigit_k {c : Nat} {b : Bool} (h : Hid (dgB c = b)) (hc : c < 65536) (w : World) : Calls Tryz.prog 185 #[.int .u16 c] w fun e w' => e = .returned (.bool b) ∧ w = w' := by
  have q := rdigit_c c hc w
  rw [h.out] at q
  exact q
theorem rBlank_k {c : Nat} {b : Bool} (h : Hid (blankB c = b)) (w : World) : Calls Tryz.prog 115 #[.int .u16 c] w fun e w' => e = .returned (.bool b) ∧ w = w' := by
  have q := rBlank_c c w
  rw [h.out] at q
  exact q
/-- Digits alone, at least one. -/
def dgs (xs : List Nat) : Bool := xs.all dgB && decide (0 < xs.length)
def DgRel (p : Nat → Bool) (xs : List Nat) (s : Value) : Prop := ∃ k : Nat, k ≤ xs.length ∧ s = .int .i64 k ∧ (xs.take k).all p = true
theorem all_take {p : Nat → Bool} {xs : List Nat} {k : Nat} (h : (xs.take k).all p = true) (hk : k < xs.length) (hv : p (xs.getD k 0) = true) : (xs.take (k + 1)).all p = true := by
  rw [List.getD_eq_getElem?_getD, List.getElem?_eq_getElem hk] at hv
  rw [List.take_succ_eq_append_getElem hk, List.all_append, h]
  simpa using hv
theorem all_not {p : Nat → Bool} {xs : List Nat} {k : Nat} (hk : k < xs.length) (hv : p (xs.getD k 0) = false) : xs.all p = false := by
  rw [List.all_eq_false]
  exact ⟨_, getD_mem hk, by rw [hv]; simp⟩
set_option maxRecDepth 100000 in
set_option maxHeartbeats 1000000 in
theorem rDigits_c (A : Option Addr) (xs : List Nat) (n c : Nat) (w : World) (ha : Ar .u16 65536 w A xs n c) :
    Calls Tryz.prog 99 #[.slice A n c] w fun e w' => e = .returned (.bool (dgs xs)) ∧ w = w' := by
  obtain ⟨hrd, hlen, hcap, hmax, hbd⟩ := ha
  subst hlen
  go_enter Tryz.func99, Tryz.ntmps99
  go_wp2
  go_loop [3] (DgRel dgB xs) (fun s => ((xs.length : Int) - intOf s).toNat)
  case atStart => exact ⟨0, by omega, rfl, rfl⟩
  case round =>
    obtain ⟨k, hk, rfl, he⟩ := hrel
    by_cases hlt : k < xs.length
    · obtain ⟨g, o, rfl, hg, hat⟩ := hrd.at_ hlt
      have hcell := hat k hlt
      have hadd := add_addr g o k
      have HE := Lib.hid he
      have hvb : xs.getD k 0 < 65536 := hbd _ (getD_mem hlt)
      clear he hat
      obtain ⟨v, hv⟩ : ∃ v, xs.getD k 0 = v := ⟨_, rfl⟩
      rw [hv] at hcell hvb
      have HV := Lib.hid hv
      clear hv
      cases hd : dgB v
      · have HD := Lib.hid hd
        have HN : Hid (dgs xs = false) := Lib.hid (by unfold dgs; rw [all_not hlt (by rw [HV.out]; exact hd)]; rfl)
        clear hd
        go_wp2_with (go_at_call 185; (with_reducible refine (rdigit_k HD hvb _).mono ?_); rintro e w1 ⟨rfl, rfl⟩)
        go_ret
        exact ⟨by rw [HN.out]; rfl, rfl⟩
      · have HD := Lib.hid hd
        have HT := Lib.hid (all_take HE.out hlt (by rw [HV.out]; exact hd))
        clear hd
        go_wp2_with (go_at_call 185; (with_reducible refine (rdigit_k HD hvb _).mono ?_); rintro e w1 ⟨rfl, rfl⟩)
        go_round
        case rel => exact ⟨k + 1, hlt, by rw [show ((k + 1 : Nat) : Int) = (k : Int) + 1 by omega], HT.out⟩
        case measure => simp [intOf]; omega
    · obtain rfl : k = xs.length := by omega
      rw [List.take_length] at he
      have hm : ∀ b : Bool, b = decide (0 < xs.length) → (Value.bool b) = .bool (dgs xs) := fun b h => by rw [h]; unfold dgs; rw [he]; rfl
      have HM := Lib.hid hm
      clear hm he
      go_wp2
      all_goals go_ret
      all_goals refine ⟨congrArg Ending.returned (HM.out _ ?_), rfl⟩
      all_goals (first | rfl | (rw [Bool.eq_iff_iff]; simp; try omega))
end Go.Proofs.YtakahpbondaidaaGreatDoor
namespace Go.Proofs.YtakahpbondaidaaGreatDoor
open Go.RowKit

theorem vals_one (k : IntKind) (xs : List Nat) : ∀ u ∈ vals k xs, u.oneCell' = true := fun u h => by
  obtain ⟨x, _, rfl⟩ := List.mem_map.1 h
  rfl
/-- The number of digits. -/
def vd (xs : List Nat) : Nat := xs.foldl (fun n x => 10 * n + (x - 48)) 0
theorem vd_app (xs ys : List Nat) : vd (xs ++ ys) = ys.foldl (fun n x => 10 * n + (x - 48)) (vd xs) := by unfold vd; rw [List.foldl_append]
theorem vd_take {xs : List Nat} {k : Nat} (hk : k < xs.length) : vd (xs.take (k + 1)) = 10 * vd (xs.take k) + (xs.getD k 0 - 48) := by
  rw [List.take_succ_eq_append_getElem hk, vd_app, List.getD_eq_getElem?_getD, List.getElem?_eq_getElem hk]
  rfl
set_option maxRecDepth 10000 in
theorem vd_mono : ∀ (ys : List Nat) (m n : Nat), m ≤ n → m ≤ ys.foldl (fun n x => 10 * n + (x - 48)) n
  | [], _, _, h => h
  | y :: ys, m, n, h => vd_mono ys m (10 * n + (y - 48)) (by omega)
theorem vd_ge (xs : List Nat) (k : Nat) : vd (xs.take k) ≤ vd xs := by
  conv => rhs; rw [← List.take_append_drop k xs, vd_app]
  exact vd_mono _ _ _ (Nat.le_refl _)
/-- What whole tells. -/
def whI (m : Nat) : Int := if m ≤ 9007199254740991 then m else -1
def WhRel (xs : List Nat) (s3 s4 : Value) : Prop := ∃ k m : Nat, k ≤ xs.length ∧ s4 = .int .i64 k ∧ s3 = .int .i64 m ∧ m ≤ 9007199254740991 ∧ vd (xs.take k) = m
set_option maxRecDepth 100000 in
set_option maxHeartbeats 1000000 in
theorem rwhole_c (A : Option Addr) (xs : List Nat) (n c : Nat) (w : World) (ha : Ar .u16 65536 w A xs n c) (hd : xs.all dgB = true) :
    Calls Tryz.prog 100 #[.slice A n c] w fun e w' => e = .returned (.int .i64 (whI (vd xs))) ∧ w = w' := by
  obtain ⟨hrd, hlen, hcap, hmax, hbd⟩ := ha
  subst hlen
  have HD := Lib.hid hd
  clear hd
  go_enter Tryz.func100, Tryz.ntmps100
  go_wp2
  go_loop [3, 4] (WhRel xs) (fun _ s => ((xs.length : Int) - intOf s).toNat)
  case atStart => exact ⟨0, 0, by omega, rfl, rfl, by omega, rfl⟩
  case round =>
    obtain ⟨k, m, hk, rfl, rfl, hm, he⟩ := hrel
    by_cases hlt : k < xs.length
    · obtain ⟨g, o, rfl, hg, hat⟩ := hrd.at_ hlt
      have hcell := hat k hlt
      have hadd := add_addr g o k
      have hdv : dgB (xs.getD k 0) = true := List.all_eq_true.1 HD.out _ (getD_mem hlt)
      have HT := vd_take hlt
      have HG := vd_ge xs (k + 1)
      obtain ⟨v, hv⟩ : ∃ v, xs.getD k 0 = v := ⟨_, rfl⟩
      rw [hv] at hcell hdv HT
      have h48 : 48 ≤ v ∧ v ≤ 57 := by unfold dgB at hdv; simp at hdv; omega
      obtain ⟨d, rfl⟩ : ∃ d, v = 48 + d := ⟨v - 48, by omega⟩
      have e1 : IntKind.u16.wrap (((48 + d : Nat) : Int) - 48) = (d : Int) := by rw [IntKind.wrap_u16]; omega
      have hd9 : d ≤ 9 := by omega
      have e2 : vd (xs.take (k + 1)) = 10 * m + d := by rw [HT, he]; omega
      obtain ⟨z, hz⟩ : ∃ z : Int, z = ((48 + d : Nat) : Int) := ⟨_, rfl⟩
      rw [← hz] at hcell e1
      have HV := Lib.hid hv
      have HE := Lib.hid e2
      have HGG := Lib.hid HG
      clear he hat hv HT HG e2 hdv h48 hz
      by_cases hb : 10 * m + d ≤ 9007199254740991
      · have b1 : decide (10 * (m : Int) + (d : Int) > 9007199254740991) = false := by simp; omega
        have b2 : decide ((9007199254740991 : Int) < 10 * (m : Int) + (d : Int)) = false := by simp; omega
        go_wp2
        go_round
        case rel => exact ⟨k + 1, 10 * m + d, hlt, by rw [show ((k + 1 : Nat) : Int) = (k : Int) + 1 by omega], by rw [show ((10 * m + d : Nat) : Int) = 10 * (m : Int) + (d : Int) by omega], hb, HE.out⟩
        case measure => simp [intOf]; omega
      · have b1 : decide (10 * (m : Int) + (d : Int) > 9007199254740991) = true := by simp; omega
        have b2 : decide ((9007199254740991 : Int) < 10 * (m : Int) + (d : Int)) = true := by simp; omega
        have HN : Hid (whI (vd xs) = -1) := Lib.hid (by
          unfold whI
          have := HGG.out
          rw [HE.out] at this
          rw [if_neg (by omega)])
        go_wp2
        go_ret
        exact ⟨by rw [HN.out]; rfl, rfl⟩
    · obtain rfl : k = xs.length := by omega
      rw [List.take_length] at he
      have HN : Hid (whI (vd xs) = (m : Int)) := Lib.hid (by unfold whI; rw [he, if_pos hm])
      clear he
      go_wp2
      go_ret
      exact ⟨by rw [HN.out]; rfl, rfl⟩
end Go.Proofs.YtakahpbondaidaaGreatDoor
namespace Go.Proofs.YtakahpbondaidaaGreatDoor
open Go.RowKit
theorem drop_cons {xs : List Nat} {k : Nat} (h : k < xs.length) : xs.drop k = xs.getD k 0 :: xs.drop (k + 1) := by
  rw [List.drop_eq_getElem_cons h, List.getD_eq_getElem?_getD, List.getElem?_eq_getElem h]
  rfl


/-- mid is xs without the blanks at both ends. -/
def TrimOf (xs mid : List Nat) : Prop := ∃ b1 b2 : List Nat, xs = b1 ++ mid ++ b2 ∧ b1.all blankB = true ∧ b2.all blankB = true ∧ (mid ≠ [] → blankB (mid.getD 0 0) = false ∧ blankB (mid.getD (mid.length - 1) 0) = false)
def TrP (A : Option Addr) (xs : List Nat) (n c : Nat) (w : World) (e : Ending) (w' : World) : Prop := ∃ (C : Option Addr) (m d : Nat) (mid : List Nat), e = .returned (.slice C m d) ∧ w = w' ∧ TrimOf xs mid ∧ ∀ w2, Ar .u16 65536 w2 A xs n c → Ar .u16 65536 w2 C mid m d
def T2Rel (xs : List Nat) (k : Nat) (s4 : Value) : Prop := ∃ j : Nat, k < j ∧ j ≤ xs.length ∧ s4 = .int .i64 j ∧ (xs.drop j).all blankB = true
theorem trim_nil {xs : List Nat} (h : xs.all blankB = true) : TrimOf xs [] := ⟨xs, [], by simp, h, rfl, fun h => absurd rfl h⟩
theorem trim_mid {xs : List Nat} {k j : Nat} (hk : k < j) (hj : j ≤ xs.length) (h1 : (xs.take k).all blankB = true) (h2 : (xs.drop j).all blankB = true) (hb1 : blankB (xs.getD k 0) = false) (hb2 : blankB (xs.getD (j - 1) 0) = false) : TrimOf xs ((xs.drop k).take (j - k)) := by
  have e0 : (xs.drop k).drop (j - k) = xs.drop j := by rw [List.drop_drop]; congr 1; omega
  have hl : ((xs.drop k).take (j - k)).length = j - k := by rw [List.length_take, List.length_drop]; omega
  refine ⟨xs.take k, xs.drop j, ?_, h1, h2, fun _ => ⟨?_, ?_⟩⟩
  · rw [List.append_assoc, ← e0, List.take_append_drop, List.take_append_drop]
  · rw [getD_take (by omega), getD_drop]; exact hb1
  · rw [hl, getD_take (by omega), getD_drop]
    rw [show k + (j - k - 1) = j - 1 by omega]
    exact hb2
theorem ar_mid {k : IntKind} {K : Nat} {w : World} {g o c : Nat} {xs : List Nat} {n a j : Nat} (h : Ar k K w (some ⟨g, o, none⟩) xs n c) (ha : a ≤ j) (hj : j ≤ n) : Ar k K w (some ⟨g, o + a, none⟩) ((xs.drop a).take (j - a)) (j - a) (c - a) := by
  obtain ⟨hrd, hlen, hcap, hmax, hbd⟩ := h
  refine ⟨fun h0 => ?_, by rw [List.length_take, List.length_drop]; omega, by omega, by omega, fun x hx => hbd x (List.mem_of_mem_drop (List.mem_of_mem_take hx))⟩
  rw [List.length_take, List.length_drop] at h0
  obtain ⟨g2, o2, e, hg, hat⟩ := hrd (by omega)
  injection e with e
  injection e with e1 e2
  subst e1 e2
  exact ⟨_, _, rfl, hg, (hat.drop a).take (j - a)⟩
set_option maxRecDepth 100000 in
set_option maxHeartbeats 1000000 in
theorem rTrim_c (A : Option Addr) (xs : List Nat) (n c : Nat) (w : World) (ha : Ar .u16 65536 w A xs n c) :
    Calls Tryz.prog 55 #[.slice A n c] w (TrP A xs n c w) := by
  obtain ⟨hrd, hlen, hcap, hmax, hbd⟩ := ha
  subst hlen
  go_enter Tryz.func55, Tryz.ntmps55
  go_wp2_with fail
  go_loop [3] (DgRel blankB xs) (fun s => ((xs.length : Int) - intOf s).toNat)
  case atStart => exact ⟨0, by omega, rfl, rfl⟩
  case round =>
    obtain ⟨k, hk, rfl, he⟩ := hrel
    by_cases hlt : k < xs.length
    · obtain ⟨g, o, rfl, hg, hat⟩ := hrd.at_ hlt
      have hcell := hat k hlt
      have hadd := add_addr g o k
      have HE := Lib.hid he
      have HAt := Lib.hid hat
      clear he hat
      obtain ⟨v, hv⟩ : ∃ v, xs.getD k 0 = v := ⟨_, rfl⟩
      rw [hv] at hcell
      have HV := Lib.hid hv
      clear hv
      cases hd : blankB v
      · have HD := Lib.hid hd
        clear hd
        go_wp2_with (go_at_call 115; (with_reducible refine (rBlank_k HD _).mono ?_); rintro e w1 ⟨rfl, rfl⟩)
        go_loop [4] (T2Rel xs k) (fun s => (intOf s).toNat)
        case atStart => exact ⟨xs.length, hlt, by omega, rfl, by rw [List.drop_length]; rfl⟩
        case round =>
          obtain ⟨j, hkj, hjl, rfl, he2⟩ := hrel
          obtain ⟨i, rfl⟩ : ∃ i, j = i + 1 := ⟨j - 1, by omega⟩
          have hi : i < xs.length := by omega
          have hcell2 := HAt.out i hi
          have hadd2 := add_addr g o i
          have HE2 := Lib.hid he2
          clear he2
          obtain ⟨u, hu⟩ : ∃ u, xs.getD i 0 = u := ⟨_, rfl⟩
          rw [hu] at hcell2
          have HU := Lib.hid hu
          clear hu
          cases hd2 : blankB u
          · have HD2 := Lib.hid hd2
            have HM := Lib.hid (trim_mid hkj hjl HE.out HE2.out (by rw [HV.out]; exact HD.out) (by rw [show i + 1 - 1 = i by omega, HU.out]; exact hd2))
            clear hd2
            go_wp2_with (go_at_call 115; (with_reducible refine (rBlank_k HD2 _).mono ?_); rintro e w1 ⟨rfl, rfl⟩)
            go_ret
            exact ⟨_, _, _, _, rfl, rfl, HM.out, fun w2 h2 => ar_mid h2 (by omega) hjl⟩
          · have HD2 := Lib.hid hd2
            clear hd2
            go_wp2_with (go_at_call 115; (with_reducible refine (rBlank_k HD2 _).mono ?_); rintro e w1 ⟨rfl, rfl⟩)
            go_round
            case rel =>
              have hik : k < i := by
                apply Nat.lt_of_le_of_ne (by omega)
                intro e
                subst e
                have := HV.out.symm.trans HU.out
                subst this
                rw [HD.out] at HD2
                cases HD2.out
              refine ⟨i, hik, by omega, rfl, ?_⟩
              rw [drop_cons hi, List.all_cons, HU.out, HD2.out, HE2.out]
              rfl
            case measure => simp [intOf]
      · have HD := Lib.hid hd
        have HT := Lib.hid (all_take HE.out hlt (by rw [HV.out]; exact hd))
        clear hd
        go_wp2_with (go_at_call 115; (with_reducible refine (rBlank_k HD _).mono ?_); rintro e w1 ⟨rfl, rfl⟩)
        go_round
        case rel => exact ⟨k + 1, hlt, by rw [show ((k + 1 : Nat) : Int) = (k : Int) + 1 by omega], HT.out⟩
        case measure => (simp [intOf] <;> omega)
    · obtain rfl : k = xs.length := by omega
      rw [List.take_length] at he
      have HM := Lib.hid (trim_nil he)
      clear he
      go_wp2_with fail
      go_loop [4] (fun s => s = .int .i64 xs.length) (fun s => (intOf s).toNat)
      case atStart => rfl
      case round =>
        subst hrel
        go_wp2_with fail
        all_goals go_ret
        all_goals exact ⟨_, _, _, [], rfl, rfl, HM.out, fun _ _ => ⟨Rd.nil, rfl, by omega, by omega, fun x hx => by simp at hx⟩⟩
end Go.Proofs.YtakahpbondaidaaGreatDoor
namespace Go.Proofs.YtakahpbondaidaaGreatDoor
open Go.RowKit

def otL : List Nat := [120, 88, 111, 79, 46, 43, 45, 95]
def numBase (c : Nat) : Bool := dgB c || (decide (97 ≤ c) && decide (c ≤ 102)) || (decide (65 ≤ c) && decide (c ≤ 70))
def nuJ (c j : Nat) : Bool := numBase c || (otL.take j).contains c
def numOk (c : Nat) : Bool := nuJ c 8
/-- What Numeric tells. -/
def numR (xs : List Nat) : Bool := xs.all numOk && xs.any dgB
theorem nuJ_succ (c j : Nat) (hj : j < 8) : nuJ c (j + 1) = (nuJ c j || c == otL.getD j 0) := by
  unfold nuJ
  have h8 : otL.length = 8 := rfl
  have e : otL.take (j + 1) = otL.take j ++ [otL.getD j 0] := by
    rw [List.take_succ_eq_append_getElem (by omega), List.getD_eq_getElem?_getD, List.getElem?_eq_getElem (by omega)]
    rfl
  rw [e, Bool.or_assoc]
  congr 1
  rw [Bool.eq_iff_iff]
  simp
theorem any_take {p : Nat → Bool} {xs : List Nat} {k : Nat} (hk : k < xs.length) : (xs.take (k + 1)).any p = ((xs.take k).any p || p (xs.getD k 0)) := by
  rw [List.take_succ_eq_append_getElem hk, List.any_append, List.getD_eq_getElem?_getD, List.getElem?_eq_getElem hk]
  simp
def NuRel (xs : List Nat) (s5 s6 : Value) : Prop := ∃ (k : Nat) (b : Bool), k ≤ xs.length ∧ s6 = .int .i64 k ∧ s5 = .bool b ∧ (xs.take k).any dgB = b ∧ (xs.take k).all numOk = true
def NiRel (c : Nat) (s8 s9 : Value) : Prop := ∃ (j : Nat) (b : Bool), j ≤ 8 ∧ s9 = .int .i64 j ∧ s8 = .bool b ∧ nuJ c j = b
theorem ni_start {c : Nat} {b : Bool} (h : b = numBase c) : nuJ c 0 = b := by rw [h]; unfold nuJ; rw [List.take_zero]; cases numBase c <;> rfl
set_option maxRecDepth 100000 in
set_option maxHeartbeats 4000000 in
theorem rNumeric_c (A : Option Addr) (xs : List Nat) (n c : Nat) (w : World) (ha : Ar .u16 65536 w A xs n c) :
    Calls Tryz.prog 101 #[.slice A n c, .string ⟨#[120, 88, 111, 79, 46, 43, 45, 95]⟩] w fun e w' => e = .returned (.bool (numR xs)) ∧ w = w' := by
  obtain ⟨hrd, hlen, hcap, hmax, hbd⟩ := ha
  subst hlen
  go_enter Tryz.func101, Tryz.ntmps101
  go_wp2_with fail
  go_loop [5, 6] (NuRel xs) (fun _ s => ((xs.length : Int) - intOf s).toNat)
  case atStart => exact ⟨0, false, by omega, rfl, rfl, rfl, rfl⟩
  case round =>
    obtain ⟨k, sm, hk, rfl, rfl, hs, he⟩ := hrel
    by_cases hlt : k < xs.length
    · obtain ⟨g, o, rfl, hg, hat⟩ := hrd.at_ hlt
      have hcell := hat k hlt
      have hadd := add_addr g o k
      have hvb : xs.getD k 0 < 65536 := hbd _ (getD_mem hlt)
      have HE := Lib.hid he
      have HS := Lib.hid hs
      have HAny := Lib.hid (any_take (p := dgB) hlt)
      clear he hat hs
      obtain ⟨v, hv⟩ : ∃ v, xs.getD k 0 = v := ⟨_, rfl⟩
      rw [hv] at hcell hvb
      have HV := Lib.hid hv
      clear hv
      obtain ⟨dg, hdg⟩ : ∃ b, dgB v = b := ⟨_, rfl⟩
      have HD := Lib.hid hdg
      clear hdg
      have h3 : dg = true ∨ (dg = false ∧ ((97 ≤ v ∧ v ≤ 102) ∨ (v < 97 ∧ 65 ≤ v ∧ v ≤ 70) ∨ (v < 65) ∨ (70 < v ∧ v < 97) ∨ 102 < v)) := by
        cases dg
        · right; refine ⟨rfl, ?_⟩; omega
        · left; rfl
      have HB : Hid (∀ b : Bool, b = numBase v → nuJ v 0 = b) := Lib.hid fun b h => ni_start h
      rcases h3 with rfl | ⟨rfl, ⟨q1, q2⟩ | ⟨q0, q1, q2⟩ | q1 | ⟨q1, q2⟩ | q1⟩
      all_goals
        first
          | (have d1 : decide ((v : Int) ≥ 97) = true := by simp; omega)
          | (have d1 : decide ((v : Int) ≥ 97) = false := by simp; omega)
          | skip
        first
          | (have d2 : decide ((v : Int) ≤ 102) = true := by simp; omega)
          | (have d2 : decide ((v : Int) ≤ 102) = false := by simp; omega)
          | skip
        first
          | (have d3 : decide ((v : Int) ≥ 65) = true := by simp; omega)
          | (have d3 : decide ((v : Int) ≥ 65) = false := by simp; omega)
          | skip
        first
          | (have d4 : decide ((v : Int) ≤ 70) = true := by simp; omega)
          | (have d4 : decide ((v : Int) ≤ 70) = false := by simp; omega)
          | skip
        have HQ := Lib.hid (show numBase v = _ from rfl)
        go_wp2_with (go_at_call 185; (with_reducible refine (rdigit_k HD hvb _).mono ?_); rintro e w1 ⟨rfl, rfl⟩)
        go_loop [8, 9] (NiRel v) (fun _ s => ((8 : Int) - intOf s).toNat)
        case atStart =>
          refine ⟨0, _, by omega, rfl, rfl, HB.out _ ?_⟩
          unfold numBase
          rw [HD.out]
          simp
          try omega
        case round =>
          obtain ⟨j, b, hj, rfl, rfl, hb⟩ := hrel
          have HJ := Lib.hid hb
          clear hb
          have hc9 : j = 0 ∨ j = 1 ∨ j = 2 ∨ j = 3 ∨ j = 4 ∨ j = 5 ∨ j = 6 ∨ j = 7 ∨ j = 8 := by omega
          rcases hc9 with rfl | rfl | rfl | rfl | rfl | rfl | rfl | rfl | rfl
          · have HN := Lib.hid (nuJ_succ v 0 (by omega))
            cases b
            · by_cases hv : v = 120
              · have b1 : ((v : Int) == 120) = true := by simp; omega
                go_wp2_with fail
                go_round
                case rel => exact ⟨1, true, by omega, rfl, rfl, by rw [HN.out, hv]; simp [otL]⟩
                case measure => simp [intOf]
              · have b1 : ((v : Int) == 120) = false := by simp; omega
                go_wp2_with fail
                go_round
                case rel => exact ⟨1, false, by omega, rfl, congrArg Value.bool b1, by rw [HN.out, HJ.out]; simp [otL]; exact hv⟩
                case measure => simp [intOf]
            · go_wp2_with fail
              go_round
              case rel => exact ⟨1, true, by omega, rfl, rfl, by rw [HN.out, HJ.out]; rfl⟩
              case measure => simp [intOf]
          · have HN := Lib.hid (nuJ_succ v 1 (by omega))
            cases b
            · by_cases hv : v = 88
              · have b1 : ((v : Int) == 88) = true := by simp; omega
                go_wp2_with fail
                go_round
                case rel => exact ⟨2, true, by omega, rfl, rfl, by rw [HN.out, hv]; simp [otL]⟩
                case measure => simp [intOf]
              · have b1 : ((v : Int) == 88) = false := by simp; omega
                go_wp2_with fail
                go_round
                case rel => exact ⟨2, false, by omega, rfl, congrArg Value.bool b1, by rw [HN.out, HJ.out]; simp [otL]; exact hv⟩
                case measure => simp [intOf]
            · go_wp2_with fail
              go_round
              case rel => exact ⟨2, true, by omega, rfl, rfl, by rw [HN.out, HJ.out]; rfl⟩
              case measure => simp [intOf]
          · have HN := Lib.hid (nuJ_succ v 2 (by omega))
            cases b
            · by_cases hv : v = 111
              · have b1 : ((v : Int) == 111) = true := by simp; omega
                go_wp2_with fail
                go_round
                case rel => exact ⟨3, true, by omega, rfl, rfl, by rw [HN.out, hv]; simp [otL]⟩
                case measure => simp [intOf]
              · have b1 : ((v : Int) == 111) = false := by simp; omega
                go_wp2_with fail
                go_round
                case rel => exact ⟨3, false, by omega, rfl, congrArg Value.bool b1, by rw [HN.out, HJ.out]; simp [otL]; exact hv⟩
                case measure => simp [intOf]
            · go_wp2_with fail
              go_round
              case rel => exact ⟨3, true, by omega, rfl, rfl, by rw [HN.out, HJ.out]; rfl⟩
              case measure => simp [intOf]
          · have HN := Lib.hid (nuJ_succ v 3 (by omega))
            cases b
            · by_cases hv : v = 79
              · have b1 : ((v : Int) == 79) = true := by simp; omega
                go_wp2_with fail
                go_round
                case rel => exact ⟨4, true, by omega, rfl, rfl, by rw [HN.out, hv]; simp [otL]⟩
                case measure => simp [intOf]
              · have b1 : ((v : Int) == 79) = false := by simp; omega
                go_wp2_with fail
                go_round
                case rel => exact ⟨4, false, by omega, rfl, congrArg Value.bool b1, by rw [HN.out, HJ.out]; simp [otL]; exact hv⟩
                case measure => simp [intOf]
            · go_wp2_with fail
              go_round
              case rel => exact ⟨4, true, by omega, rfl, rfl, by rw [HN.out, HJ.out]; rfl⟩
              case measure => simp [intOf]
          · have HN := Lib.hid (nuJ_succ v 4 (by omega))
            cases b
            · by_cases hv : v = 46
              · have b1 : ((v : Int) == 46) = true := by simp; omega
                go_wp2_with fail
                go_round
                case rel => exact ⟨5, true, by omega, rfl, rfl, by rw [HN.out, hv]; simp [otL]⟩
                case measure => simp [intOf]
              · have b1 : ((v : Int) == 46) = false := by simp; omega
                go_wp2_with fail
                go_round
                case rel => exact ⟨5, false, by omega, rfl, congrArg Value.bool b1, by rw [HN.out, HJ.out]; simp [otL]; exact hv⟩
                case measure => simp [intOf]
            · go_wp2_with fail
              go_round
              case rel => exact ⟨5, true, by omega, rfl, rfl, by rw [HN.out, HJ.out]; rfl⟩
              case measure => simp [intOf]
          · have HN := Lib.hid (nuJ_succ v 5 (by omega))
            cases b
            · by_cases hv : v = 43
              · have b1 : ((v : Int) == 43) = true := by simp; omega
                go_wp2_with fail
                go_round
                case rel => exact ⟨6, true, by omega, rfl, rfl, by rw [HN.out, hv]; simp [otL]⟩
                case measure => simp [intOf]
              · have b1 : ((v : Int) == 43) = false := by simp; omega
                go_wp2_with fail
                go_round
                case rel => exact ⟨6, false, by omega, rfl, congrArg Value.bool b1, by rw [HN.out, HJ.out]; simp [otL]; exact hv⟩
                case measure => simp [intOf]
            · go_wp2_with fail
              go_round
              case rel => exact ⟨6, true, by omega, rfl, rfl, by rw [HN.out, HJ.out]; rfl⟩
              case measure => simp [intOf]
          · have HN := Lib.hid (nuJ_succ v 6 (by omega))
            cases b
            · by_cases hv : v = 45
              · have b1 : ((v : Int) == 45) = true := by simp; omega
                go_wp2_with fail
                go_round
                case rel => exact ⟨7, true, by omega, rfl, rfl, by rw [HN.out, hv]; simp [otL]⟩
                case measure => simp [intOf]
              · have b1 : ((v : Int) == 45) = false := by simp; omega
                go_wp2_with fail
                go_round
                case rel => exact ⟨7, false, by omega, rfl, congrArg Value.bool b1, by rw [HN.out, HJ.out]; simp [otL]; exact hv⟩
                case measure => simp [intOf]
            · go_wp2_with fail
              go_round
              case rel => exact ⟨7, true, by omega, rfl, rfl, by rw [HN.out, HJ.out]; rfl⟩
              case measure => simp [intOf]
          · have HN := Lib.hid (nuJ_succ v 7 (by omega))
            cases b
            · by_cases hv : v = 95
              · have b1 : ((v : Int) == 95) = true := by simp; omega
                go_wp2_with fail
                go_round
                case rel => exact ⟨8, true, by omega, rfl, rfl, by rw [HN.out, hv]; simp [otL]⟩
                case measure => simp [intOf]
              · have b1 : ((v : Int) == 95) = false := by simp; omega
                go_wp2_with fail
                go_round
                case rel => exact ⟨8, false, by omega, rfl, congrArg Value.bool b1, by rw [HN.out, HJ.out]; simp [otL]; exact hv⟩
                case measure => simp [intOf]
            · go_wp2_with fail
              go_round
              case rel => exact ⟨8, true, by omega, rfl, rfl, by rw [HN.out, HJ.out]; rfl⟩
              case measure => simp [intOf]
          · cases b
            · have HN : Hid (numR xs = false) := Lib.hid (by unfold numR; rw [all_not hlt (by rw [HV.out]; exact HJ.out)]; rfl)
              go_wp2_with fail
              go_ret
              exact ⟨by rw [HN.out]; rfl, rfl⟩
            · have HT := Lib.hid (all_take HE.out hlt (by rw [HV.out]; exact HJ.out))
              cases sm
              all_goals
                go_wp2_with (go_at_call 185; (with_reducible refine (rdigit_k HD hvb _).mono ?_); rintro e w1 ⟨rfl, rfl⟩)
                go_round
                case rel => exact ⟨k + 1, _, hlt, by rw [show ((k + 1 : Nat) : Int) = (k : Int) + 1 by omega], rfl, by rw [HAny.out, HS.out, HV.out, HD.out]; rfl, HT.out⟩
                case measure => simp [intOf]; omega
    · obtain rfl : k = xs.length := by omega
      rw [List.take_length] at he hs
      have HN : Hid (numR xs = sm) := Lib.hid (by unfold numR; rw [he, hs]; rfl)
      clear he hs
      go_wp2_with fail
      go_ret
      exact ⟨by rw [HN.out]; rfl, rfl⟩
end Go.Proofs.YtakahpbondaidaaGreatDoor
