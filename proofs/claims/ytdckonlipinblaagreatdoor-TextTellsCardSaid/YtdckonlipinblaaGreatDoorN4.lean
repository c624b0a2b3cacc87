/- Contracts: unsigned, signed, hasOnly, withoutZeros. -/
import Derived.Test.YtdckonlipinblaaGreatDoorN3
namespace Go.Proofs.YtdckonlipinblaaGreatDoor
open Go.RowKit


/-- A list of bytes as a string. -/
def str (l : List UInt8) : ByteArray := ⟨l.toArray⟩
theorem str_data (l : List UInt8) : (str l).data.toList = l := rfl
theorem str_size (l : List UInt8) : (str l).size = l.length := by show l.toArray.size = _; simp
theorem str_list (l : List UInt8) : (str l).toList = l := by rw [toList_data, str_data]
/-- Without the one sign that may stand in front. -/
def unsT (l : List UInt8) : List UInt8 := if Lib.hasPrefix l [45] then Lib.trimPrefix l [45] else Lib.trimPrefix l [43]
set_option maxRecDepth 100000 in
theorem unsigned_c (l : List UInt8) (w : World) : Calls Tryz.prog 20 #[.string (str l)] w fun e w' => e = .returned (.tuple #[.string (str (unsT l)), .bool (Lib.hasPrefix l [45])]) ∧ w = w' := by
  have hcp : ∀ w : World, Calls Tryz.prog 44 #[.string (str l), .string ⟨#[45]⟩] w fun e w' => e = .returned (.tuple #[.string (str (Lib.trimPrefix l [45])), .bool (Lib.hasPrefix l [45])]) ∧ w = w' := fun w => cutPrefix_c (str l) ⟨#[45]⟩ w
  have htp : ∀ w : World, Calls Tryz.prog 45 #[.string (str l), .string ⟨#[43]⟩] w fun e w' => e = .returned (.string (str (Lib.trimPrefix l [43]))) ∧ w = w' := fun w => trimPrefix_c (str l) ⟨#[43]⟩ w
  obtain ⟨u, hu⟩ : ∃ u, unsT l = u := ⟨_, rfl⟩
  obtain ⟨a, ha⟩ : ∃ a, Lib.trimPrefix l [45] = a := ⟨_, rfl⟩
  obtain ⟨c, hc⟩ : ∃ c, Lib.trimPrefix l [43] = c := ⟨_, rfl⟩
  obtain ⟨b, hb⟩ : ∃ b, Lib.hasPrefix l [45] = b := ⟨_, rfl⟩
  have hU : u = if b then a else c := by rw [← hu, ← ha, ← hc, ← hb]; rfl
  rw [ha, hb] at hcp
  rw [hc] at htp
  rw [hb, hu]
  clear hu ha hc hb
  have HU := Lib.hid hU
  clear hU
  have HC := Lib.hid hcp
  have HT := Lib.hid htp
  clear hcp htp
  cases b
  · go_enter Tryz.func20, Tryz.ntmps20
    go_wp2_with (first
      | (go_at_call 44; refine (HC.out _).mono ?_; rintro e w1 ⟨rfl, rfl⟩)
      | (go_at_call 45; refine (HT.out _).mono ?_; rintro e w1 ⟨rfl, rfl⟩))
    go_returns
    refine ⟨?_, rfl⟩
    rw [HU.out]
    rfl
  · go_enter Tryz.func20, Tryz.ntmps20
    go_wp2_with (first
      | (go_at_call 44; refine (HC.out _).mono ?_; rintro e w1 ⟨rfl, rfl⟩))
    go_returns
    refine ⟨?_, rfl⟩
    rw [HU.out]
    rfl
/-- A number, or its opposite. -/
def sgnK (b : Bool) (k n : Int) : Int := if b then (negR k n).k else k
def sgnN (b : Bool) (k n : Int) : Int := if b then (negR k n).n else n
theorem signed_c (b : Bool) (k n : Int) (w : World) : Calls Tryz.prog 22 #[.bool b, .agg #[.int .i64 k, .int .i64 n]] w fun e w' => e = .returned (.agg #[.int .i64 (sgnK b k n), .int .i64 (sgnN b k n)]) ∧ Plus w w' := by
  cases b
  · go_enter Tryz.func22, Tryz.ntmps22
    go_wp2_with (fail)
    go_returns
    exact ⟨rfl, (by repeat' (first | exact Plus.refl _ | refine Plus.alloc ?_ _ | refine Plus.plus ?_ _ | refine Plus.drew ?_ | refine Plus.drewN ?_ _))⟩
  · go_enter Tryz.func22, Tryz.ntmps22
    go_wp2_with (go_at_call 48; refine (neg_c _ _ _).mono ?_; rintro e w1 ⟨rfl, ⟨x1, rfl⟩⟩)
    go_returns
    exact ⟨rfl, (by repeat' (first | exact Plus.refl _ | refine Plus.alloc ?_ _ | refine Plus.plus ?_ _ | refine Plus.drew ?_ | refine Plus.drewN ?_ _))⟩
def asc (l : List UInt8) : Prop := ∀ x ∈ l, x.toNat < 128
theorem asc_get {l : List UInt8} (h : asc l) : ∀ (j : Nat) b, (str l).data.toList[j]? = some b → b.toNat < 128 := fun _ _ hb => h _ (List.mem_of_getElem? hb)
theorem hasOnly_c (l s : List UInt8) (w : World) (hl : l.length ≤ 1099511627776) (hs : s.length ≤ 1048576) (ha : asc s) (b : Bool) (hb : Hid (decide (Lib.trimS l s = []) = b)) : Calls Tryz.prog 23 #[.string (str l), .string (str s)] w fun e w' => e = .returned (.bool b) ∧ Plus w w' := by
  have htr : ∀ w : World, Calls Tryz.prog 19 #[.string (str l), .string (str s)] w fun e w' => e = .returned (.string (str (Lib.trimS l s))) ∧ Plus w w' := fun w => trim_c (str l) (str s) w (by rw [str_size]; omega) (by rw [str_size]; omega) (asc_get ha)
  have HT := Lib.hid htr
  clear htr
  have e1 : ((str (Lib.trimS l s)).toList == []) = b := by rw [str_list, ← hb.out, Bool.eq_iff_iff]; simp
  have e2 : (str (Lib.trimS l s)).toList.isEmpty = b := by rw [← e1]; cases (str (Lib.trimS l s)).toList <;> rfl
  go_enter Tryz.func23, Tryz.ntmps23
  go_wp2_with (go_at_call 19; refine (HT.out _).mono ?_; rintro e w1 ⟨rfl, ⟨x1, rfl⟩⟩)
  go_ret
  exact ⟨rfl, (by repeat' (first | exact Plus.refl _ | refine Plus.alloc ?_ _ | refine Plus.plus ?_ _ | refine Plus.drew ?_ | refine Plus.drewN ?_ _))⟩
def wzT (l : List UInt8) : List UInt8 := if Lib.trimLeftS l [48] = [] then [48] else Lib.trimLeftS l [48]
theorem withoutZeros_c (l : List UInt8) (w : World) : Calls Tryz.prog 25 #[.string (str l)] w fun e w' => e = .returned (.string (str (wzT l))) ∧ Plus w w' := by
  have htr : ∀ w : World, Calls Tryz.prog 52 #[.string (str l), .string ⟨#[48]⟩] w fun e w' => e = .returned (.string (str (Lib.trimLeftS l [48]))) ∧ Plus w w' := fun w => trimLeft_c (str l) ⟨#[48]⟩ w (by decide) (fun j b hb => by
    have : b ∈ [(48 : UInt8)] := List.mem_of_getElem? hb
    simp at this
    subst this
    decide)
  have HT := Lib.hid htr
  clear htr
  obtain ⟨t, ht⟩ : ∃ t, Lib.trimLeftS l [48] = t := ⟨_, rfl⟩
  obtain ⟨u, hu⟩ : ∃ u, wzT l = u := ⟨_, rfl⟩
  have hW : u = if t = [] then [48] else t := by rw [← hu, ← ht]; rfl
  obtain ⟨T, hT⟩ : ∃ T, str t = T := ⟨_, rfl⟩
  rw [ht, hT] at HT
  rw [hu]
  clear hu ht
  by_cases h0 : t = []
  · have e1 : T.toList = [] := by rw [← hT, str_list, h0]
    have e2 : (T.toList == []) = true := by rw [e1]; rfl
    have e3 : T.toList.isEmpty = true := by rw [e1]; rfl
    rw [if_pos h0] at hW
    have HW := Lib.hid hW
    clear h0 hT hW
    go_enter Tryz.func25, Tryz.ntmps25
    go_wp2_with (go_at_call 52; refine (HT.out _).mono ?_; rintro e w1 ⟨rfl, ⟨x1, rfl⟩⟩)
    go_ret
    exact ⟨by rw [HW.out]; rfl, (by repeat' (first | exact Plus.refl _ | refine Plus.alloc ?_ _ | refine Plus.plus ?_ _ | refine Plus.drew ?_ | refine Plus.drewN ?_ _))⟩
  · have e2 : (T.toList == []) = false := by rw [← hT, str_list]; simpa using h0
    have e3 : T.toList.isEmpty = false := by rw [← hT, str_list]; cases t with | nil => exact absurd rfl h0 | cons a l => rfl
    have e4 : ¬ T.toList = [] := by rw [← hT, str_list]; exact h0
    rw [if_neg h0] at hW
    have HW := Lib.hid hW
    have HTT := Lib.hid hT
    clear h0 hT hW
    go_enter Tryz.func25, Tryz.ntmps25
    go_wp2_with (go_at_call 52; refine (HT.out _).mono ?_; rintro e w1 ⟨rfl, ⟨x1, rfl⟩⟩)
    go_ret
    exact ⟨by rw [HW.out, HTT.out]; rfl, (by repeat' (first | exact Plus.refl _ | refine Plus.alloc ?_ _ | refine Plus.plus ?_ _ | refine Plus.drew ?_ | refine Plus.drewN ?_ _))⟩
end Go.Proofs.YtdckonlipinblaaGreatDoor
