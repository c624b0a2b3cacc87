/- The document's Trim. -/
import Derived.IntWalk
import Derived.Test.YtdckonlipinblaaGreatDoorD3
namespace Go.Proofs.YtdckonlipinblaaGreatDoor
open Go.RowKit


/-- mid is xs without the blanks at both ends. -/
def TrimOf (xs mid : List Nat) : Prop := ∃ b1 b2 : List Nat, xs = b1 ++ mid ++ b2 ∧ b1.all blankB = true ∧ b2.all blankB = true ∧ (mid ≠ [] → blankB (mid.getD 0 0) = false ∧ blankB (mid.getD (mid.length - 1) 0) = false)
def TrP (A : Option Addr) (xs : List Nat) (n c : Nat) (w : World) (e : Ending) (w' : World) : Prop := ∃ (C : Option Addr) (m d : Nat) (mid : List Nat), e = .returned (.slice C m d) ∧ w = w' ∧ TrimOf xs mid ∧ ∀ w2, Ar .u16 65536 w2 A xs n c → Ar .u16 65536 w2 C mid m d
def T2Rel (xs : List Nat) (k : Nat) (s4 : Value) : Prop := ∃ j : Nat, k < j ∧ j ≤ xs.length ∧ s4 = .int .i64 j ∧ (xs.drop j).all blankB = true
theorem trim_nil {xs : List Nat} (h : xs.all blankB = true) : TrimOf xs [] := ⟨xs, [], by simp, h, rfl, fun h => absurd rfl h⟩
theorem trim_mid {xs : List Nat} {k j : Nat} (hk : k < j) (hj : j ≤ xs.length) (h1 : (xs.take k).all blankB = true) (h2 : (xs.drop j).all blankB = true) (hb1 : blankB (xs.getD k 0) = false) (hb2 : blankB (xs.getD (j - 1) 0) = false) : TrimOf xs ((xs.drop k).take (j - k)) := by
  have e0 : (xs.drop k).drop (j - k) = xs.drop j := by rw [List.drop_drop]; congr 1; omega
  have hl : ((xs.drop k).take (j - k)).length = j - k := by rw [List.length_take, List.length_drop]; omega
  refine ⟨xs.take k, xs.drop j, ?_, h1, h2, fun _ => ⟨?_, ?_⟩⟩
  · rw [List.append_assoc, ← e0, List.take_append_drop, List.take_append_drop]
  · rw [getD_take (by omega), getD_drop]; exact hb1
  · rw [hl, getD_take (by omega), getD_drop]
    rw [show k + (j - k - 1) = j - 1 by omega]
    exact hb2
theorem ar_mid {k : IntKind} {K : Nat} {w : World} {g o c : Nat} {xs : List Nat} {n a j : Nat} (h : Ar k K w (some ⟨g, o, none⟩) xs n c) (ha : a ≤ j) (hj : j ≤ n) : Ar k K w (some ⟨g, o + a, none⟩) ((xs.drop a).take (j - a)) (j - a) (c - a) := by
  obtain ⟨hrd, hlen, hcap, hmax, hbd⟩ := h
  refine ⟨fun h0 => ?_, by rw [List.length_take, List.length_drop]; omega, by omega, by omega, fun x hx => hbd x (List.mem_of_mem_drop (List.mem_of_mem_take hx))⟩
  rw [List.length_take, List.length_drop] at h0
  obtain ⟨g2, o2, e, hg, hat⟩ := hrd (by omega)
  injection e with e
  injection e with e1 e2
  subst e1 e2
  exact ⟨_, _, rfl, hg, (hat.drop a).take (j - a)⟩
set_option maxRecDepth 100000 in
set_option maxHeartbeats 1000000 in
theorem rTrim_c (A : Option Addr) (xs : List Nat) (n c : Nat) (w : World) (ha : Ar .u16 65536 w A xs n c) :
    Calls Tryz.prog 27 #[.slice A n c] w (TrP A xs n c w) := by
  obtain ⟨hrd, hlen, hcap, hmax, hbd⟩ := ha
  subst hlen
  go_enter Tryz.func27, Tryz.ntmps27
  go_wp2_with fail
  go_loop [3] (DgRel blankB xs) (fun s => ((xs.length : Int) - intOf s).toNat)
  case atStart => exact ⟨0, by omega, rfl, rfl⟩
  case round =>
    obtain ⟨k, hk, rfl, he⟩ := hrel
    by_cases hlt : k < xs.length
    · obtain ⟨g, o, rfl, hg, hat⟩ := hrd.at_ hlt
      have hcell := hat k hlt
      have hadd := add_addr g o k
      have HE := Lib.hid he
      have HAt := Lib.hid hat
      clear he hat
      obtain ⟨v, hv⟩ : ∃ v, xs.getD k 0 = v := ⟨_, rfl⟩
      rw [hv] at hcell
      have HV := Lib.hid hv
      clear hv
      cases hd : blankB v
      · have HD := Lib.hid hd
        clear hd
        go_wp2_with (go_at_call 54; (with_reducible refine (rBlank_k HD _).mono ?_); rintro e w1 ⟨rfl, rfl⟩)
        go_loop [4] (T2Rel xs k) (fun s => (intOf s).toNat)
        case atStart => exact ⟨xs.length, hlt, by omega, rfl, by rw [List.drop_length]; rfl⟩
        case round =>
          obtain ⟨j, hkj, hjl, rfl, he2⟩ := hrel
          obtain ⟨i, rfl⟩ : ∃ i, j = i + 1 := ⟨j - 1, by omega⟩
          have hi : i < xs.length := by omega
          have hcell2 := HAt.out i hi
          have hadd2 := add_addr g o i
          have HE2 := Lib.hid he2
          clear he2
          obtain ⟨u, hu⟩ : ∃ u, xs.getD i 0 = u := ⟨_, rfl⟩
          rw [hu] at hcell2
          have HU := Lib.hid hu
          clear hu
          cases hd2 : blankB u
          · have HD2 := Lib.hid hd2
            have HM := Lib.hid (trim_mid hkj hjl HE.out HE2.out (by rw [HV.out]; exact HD.out) (by rw [show i + 1 - 1 = i by omega, HU.out]; exact hd2))
            clear hd2
            go_wp2_with (go_at_call 54; (with_reducible refine (rBlank_k HD2 _).mono ?_); rintro e w1 ⟨rfl, rfl⟩)
            go_ret
            exact ⟨_, _, _, _, rfl, rfl, HM.out, fun w2 h2 => ar_mid h2 (by omega) hjl⟩
          · have HD2 := Lib.hid hd2
            clear hd2
            go_wp2_with (go_at_call 54; (with_reducible refine (rBlank_k HD2 _).mono ?_); rintro e w1 ⟨rfl, rfl⟩)
            go_round
            case rel =>
              have hik : k < i := by
                apply Nat.lt_of_le_of_ne (by omega)
                intro e
                subst e
                have := HV.out.symm.trans HU.out
                subst this
                rw [HD.out] at HD2
                cases HD2.out
              refine ⟨i, hik, by omega, rfl, ?_⟩
              rw [drop_cons hi, List.all_cons, HU.out, HD2.out, HE2.out]
              rfl
            case measure => simp [intOf]
      · have HD := Lib.hid hd
        have HT := Lib.hid (all_take HE.out hlt (by rw [HV.out]; exact hd))
        clear hd
        go_wp2_with (go_at_call 54; (with_reducible refine (rBlank_k HD _).mono ?_); rintro e w1 ⟨rfl, rfl⟩)
        go_round
        case rel => exact ⟨k + 1, hlt, by rw [show ((k + 1 : Nat) : Int) = (k : Int) + 1 by omega], HT.out⟩
        case measure => (simp [intOf] <;> omega)
    · obtain rfl : k = xs.length := by omega
      rw [List.take_length] at he
      have HM := Lib.hid (trim_nil he)
      clear he
      go_wp2_with fail
      go_loop [4] (fun s => s = .int .i64 xs.length) (fun s => (intOf s).toNat)
      case atStart => rfl
      case round =>
        subst hrel
        go_wp2_with fail
        all_goals go_ret
        all_goals exact ⟨_, _, _, [], rfl, rfl, HM.out, fun _ _ => ⟨Rd.nil, rfl, by omega, by omega, fun x hx => by simp at hx⟩⟩
end Go.Proofs.YtdckonlipinblaaGreatDoor
