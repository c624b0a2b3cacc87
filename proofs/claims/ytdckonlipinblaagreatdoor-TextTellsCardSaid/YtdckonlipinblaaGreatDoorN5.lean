/- Contracts: Number. -/
import Derived.Test.YtdckonlipinblaaGreatDoorN4
namespace Go.Proofs.YtdckonlipinblaaGreatDoor
open Go.RowKit


def blankS : List UInt8 := [32, 9, 10, 13]
def digS : List UInt8 := [48, 49, 50, 51, 52, 53, 54, 55, 56, 57]
def numS : List UInt8 := digS ++ [97, 98, 99, 100, 101, 102, 65, 66, 67, 68, 69, 70, 120, 88, 111, 79, 46, 43, 45, 95]
theorem trim_n {s c : ByteArray} {T : List UInt8} (hT : Hid (Lib.trimS s.data.toList c.data.toList = T)) (w : World) (hs : s.size ≤ 9223372036854775807) (hc : c.size < 4294967281) (ha : ∀ (j : Nat) b, c.data.toList[j]? = some b → b.toNat < 128) :
    Calls Tryz.prog 19 #[.string s, .string c] w fun e w' => e = .returned (.string (str T)) ∧ Plus w w' := by
  rw [← hT.out]
  exact trim_c s c w hs hc ha
theorem blank_asc : ∀ (j : Nat) b, (⟨#[32, 9, 10, 13]⟩ : ByteArray).data.toList[j]? = some b → b.toNat < 128 := fun j b hb => by
  have : b ∈ [(32 : UInt8), 9, 10, 13] := List.mem_of_getElem? hb
  simp at this
  rcases this with rfl | rfl | rfl | rfl <;> decide
theorem dig_asc : asc digS := by unfold asc digS; decide
theorem num_asc : asc numS := by unfold asc numS digS; decide
set_option maxRecDepth 100000 in
set_option maxHeartbeats 4000000 in
theorem number_low (A : Option Addr) (xs : List Nat) (n c : Nat) (w : World) (h : Hid (Ar .u16 65536 w A xs n c)) (hs : n ≤ 1048576) (hl : Hid (low xs = false)) :
    Calls Tryz.prog 7 #[.slice A n c] w fun e w' => e = .returned (.tuple #[.agg #[.int .i64 2, .int .i64 0], .bool true]) ∧ Plus w w' := by
  go_enter Tryz.func7, Tryz.ntmps7
  go_wp2_with (go_at_call 5; refine (plain_c _ _ _ _ _ (⟨h.out.rd.plus (by repeat' (first | exact Plus.refl _ | refine Plus.alloc ?_ _ | refine Plus.plus ?_ _ | refine Plus.drew ?_ | refine Plus.drewN ?_ _)), h.out.len, h.out.cap, h.out.max, h.out.bd⟩) (by omega)).mono ?_; rintro e w1 ⟨rfl, ⟨x1, rfl⟩⟩; rw [hl.out])
  go_returns
  exact ⟨rfl, (by repeat' (first | exact Plus.refl _ | refine Plus.alloc ?_ _ | refine Plus.plus ?_ _ | refine Plus.drew ?_ | refine Plus.drewN ?_ _))⟩
set_option maxRecDepth 100000 in
set_option maxHeartbeats 4000000 in
theorem number_nil (A : Option Addr) (xs : List Nat) (n c : Nat) (w : World) (h : Hid (Ar .u16 65536 w A xs n c)) (hs : n ≤ 1048576) (hl : Hid (low xs = true)) (hT : Hid (Lib.trimS (plS xs).data.toList (⟨#[32, 9, 10, 13]⟩ : ByteArray).data.toList = [])) (hz : (plS xs).size ≤ 1048576) :
    Calls Tryz.prog 7 #[.slice A n c] w fun e w' => e = .returned (.tuple #[.agg #[.int .i64 0, .int .i64 0], .bool true]) ∧ Plus w w' := by
  have t1 : (str []).toList = [] := str_list []
  have hu := unsigned_c []
  have e1 : unsT [] = [] := rfl
  have e2 : Lib.hasPrefix ([] : List UInt8) [45] = false := rfl
  rw [e1, e2] at hu
  have HU := Lib.hid hu
  have h0 : (ofS 0) = ⟨0, 0, true⟩ := rfl
  have H0 := Lib.hid h0
  clear hu h0 e1 e2
  go_enter Tryz.func7, Tryz.ntmps7
  go_wp2_with (first
    | (go_at_call 5; refine (plain_c _ _ _ _ _ (⟨h.out.rd.plus (by repeat' (first | exact Plus.refl _ | refine Plus.alloc ?_ _ | refine Plus.plus ?_ _ | refine Plus.drew ?_ | refine Plus.drewN ?_ _)), h.out.len, h.out.cap, h.out.max, h.out.bd⟩) (by omega)).mono ?_; rintro e w1 ⟨rfl, ⟨x1, rfl⟩⟩; rw [hl.out])
    | (go_at_call 19; refine (trim_n hT _ (by omega) (by decide) blank_asc).mono ?_; rintro e w1 ⟨rfl, ⟨x2, rfl⟩⟩)
    | (go_at_call 20; refine (HU.out _).mono ?_; rintro e w1 ⟨rfl, rfl⟩)
    | (go_at_call 21; refine (of_c _ _).mono ?_; rintro e w1 ⟨rfl, ⟨x3, rfl⟩⟩; rw [H0.out]))
  go_returns
  exact ⟨rfl, (by repeat' (first | exact Plus.refl _ | refine Plus.alloc ?_ _ | refine Plus.plus ?_ _ | refine Plus.drew ?_ | refine Plus.drewN ?_ _))⟩
theorem str_ne {T : List UInt8} (h : T ≠ []) : ((str T).toList == []) = false ∧ (str T).toList.isEmpty = false ∧ ¬ (str T).toList = [] := by
  rw [str_list]
  refine ⟨by simpa using h, ?_, h⟩
  cases T with
  | nil => exact absurd rfl h
  | cons a l => rfl
/-- "Infinity". -/
def infS : List UInt8 := [73, 110, 102, 105, 110, 105, 116, 121]
set_option maxRecDepth 100000 in
set_option maxHeartbeats 4000000 in
theorem number_inf (A : Option Addr) (xs : List Nat) (n c : Nat) (w : World) (h : Hid (Ar .u16 65536 w A xs n c)) (hs : n ≤ 1048576) (hl : Hid (low xs = true)) (T : List UInt8) (hT : Hid (Lib.trimS (plS xs).data.toList (⟨#[32, 9, 10, 13]⟩ : ByteArray).data.toList = T)) (hz : (plS xs).size ≤ 1048576)
    (hne : Hid (T ≠ [])) (Z : List UInt8) (hZ : Hid (unsT T = Z)) (b : Bool) (hb : Hid (Lib.hasPrefix T [45] = b)) (hi : Hid (Z = infS)) (k : Int) (hk : Hid (k = if b then 4 else 3)) :
    Calls Tryz.prog 7 #[.slice A n c] w fun e w' => e = .returned (.tuple #[.agg #[.int .i64 k, .int .i64 0], .bool true]) ∧ Plus w w' := by
  obtain ⟨t1, t2, t3⟩ := str_ne hne.out
  have hu := unsigned_c T
  rw [hZ.out, hb.out] at hu
  have HU := Lib.hid hu
  have i1 : ((str Z).toList == [73, 110, 102, 105, 110, 105, 116, 121]) = true := by rw [str_list, hi.out]; rfl
  have hsg : ∀ w : World, Calls Tryz.prog 22 #[.bool b, .agg #[.int .i64 3, .int .i64 0]] w fun e w' => e = .returned (.agg #[.int .i64 k, .int .i64 0]) ∧ Plus w w' := fun w => by
    have q := signed_c b 3 0 w
    have e1 : sgnK b 3 0 = k := by rw [hk.out]; cases b <;> rfl
    have e2 : sgnN b 3 0 = 0 := by cases b <;> rfl
    rw [e1, e2] at q
    exact q
  have HS := Lib.hid hsg
  clear hu hsg
  go_enter Tryz.func7, Tryz.ntmps7
  go_wp2_with (first
    | (go_at_call 5; refine (plain_c _ _ _ _ _ (⟨h.out.rd.plus (by repeat' (first | exact Plus.refl _ | refine Plus.alloc ?_ _ | refine Plus.plus ?_ _ | refine Plus.drew ?_ | refine Plus.drewN ?_ _)), h.out.len, h.out.cap, h.out.max, h.out.bd⟩) (by omega)).mono ?_; rintro e w1 ⟨rfl, ⟨x1, rfl⟩⟩; rw [hl.out])
    | (go_at_call 19; refine (trim_n hT _ (by omega) (by decide) blank_asc).mono ?_; rintro e w1 ⟨rfl, ⟨x2, rfl⟩⟩)
    | (go_at_call 20; refine (HU.out _).mono ?_; rintro e w1 ⟨rfl, rfl⟩)
    | (go_at_call 22; refine (HS.out _).mono ?_; rintro e w1 ⟨rfl, ⟨x3, rfl⟩⟩))
  go_returns
  exact ⟨rfl, (by repeat' (first | exact Plus.refl _ | refine Plus.alloc ?_ _ | refine Plus.plus ?_ _ | refine Plus.drew ?_ | refine Plus.drewN ?_ _))⟩
set_option maxRecDepth 100000 in
set_option maxHeartbeats 4000000 in
theorem number_dig (A : Option Addr) (xs : List Nat) (n c : Nat) (w : World) (hL : Hid (Lai w)) (h : Hid (Ar .u16 65536 w A xs n c)) (hs : n ≤ 1048576) (hl : Hid (low xs = true)) (T : List UInt8) (hT : Hid (Lib.trimS (plS xs).data.toList (⟨#[32, 9, 10, 13]⟩ : ByteArray).data.toList = T)) (hz : (plS xs).size ≤ 1048576)
    (hne : Hid (T ≠ [])) (Z : List UInt8) (hZ : Hid (unsT T = Z)) (b : Bool) (hb : Hid (Lib.hasPrefix T [45] = b)) (hi : Hid (Z ≠ infS)) (hzn : Hid (Z ≠ [])) (hzl : Z.length ≤ 1048576) (hd : Hid (decide (Lib.trimS Z digS = []) = true))
    (k m : Int) (ok : Bool) (hp : Hid (parS (wzT Z) = ⟨k, m, ok⟩)) (hwl : (wzT Z).length ≤ 1048577) (k2 m2 : Int) (hk : Hid (sgnK b k m = k2)) (hm : Hid (sgnN b k m = m2)) :
    Calls Tryz.prog 7 #[.slice A n c] w fun e w' => e = .returned (.tuple #[.agg #[.int .i64 k2, .int .i64 m2], .bool ok]) ∧ Plus w w' := by
  obtain ⟨t1, t2, t3⟩ := str_ne hne.out
  obtain ⟨z1, z2, z3⟩ := str_ne hzn.out
  have hu := unsigned_c T
  rw [hZ.out, hb.out] at hu
  have HU := Lib.hid hu
  have i1 : ((str Z).toList == [73, 110, 102, 105, 110, 105, 116, 121]) = false := by
    rw [str_list]
    have := hi.out
    unfold infS at this
    simpa using this
  have hsg := signed_c b k m
  rw [hk.out, hm.out] at hsg
  have HS := Lib.hid hsg
  have hho : ∀ w : World, Calls Tryz.prog 23 #[.string (str Z), .string ⟨#[48, 49, 50, 51, 52, 53, 54, 55, 56, 57]⟩] w fun e w' => e = .returned (.bool true) ∧ Plus w w' := fun w => hasOnly_c Z digS w (by omega) (by decide) dig_asc true hd
  have HH := Lib.hid hho
  have hpa : ∀ w : World, Lai w → Calls Tryz.prog 24 #[.string (str (wzT Z))] w fun e w' => e = .returned (.tuple #[.agg #[.int .i64 k, .int .i64 m], .bool ok]) ∧ Plus w w' := fun w hw => by
    have q := parse_c (str (wzT Z)) (by rw [str_size]; omega) w hw
    rw [str_data, hp.out] at q
    exact q
  have HP := Lib.hid hpa
  have hwz := withoutZeros_c Z
  have HW := Lib.hid hwz
  clear hu hsg hho hpa hwz
  go_enter Tryz.func7, Tryz.ntmps7
  go_wp2_with (first
    | (go_at_call 5; refine (plain_c _ _ _ _ _ (⟨h.out.rd.plus (by repeat' (first | exact Plus.refl _ | refine Plus.alloc ?_ _ | refine Plus.plus ?_ _ | refine Plus.drew ?_ | refine Plus.drewN ?_ _)), h.out.len, h.out.cap, h.out.max, h.out.bd⟩) (by omega)).mono ?_; rintro e w1 ⟨rfl, ⟨x1, rfl⟩⟩; rw [hl.out])
    | (go_at_call 19; refine (trim_n hT _ (by omega) (by decide) blank_asc).mono ?_; rintro e w1 ⟨rfl, ⟨x2, rfl⟩⟩)
    | (go_at_call 20; refine (HU.out _).mono ?_; rintro e w1 ⟨rfl, rfl⟩)
    | (go_at_call 23; refine (HH.out _).mono ?_; rintro e w1 ⟨rfl, ⟨x3, rfl⟩⟩)
    | (go_at_call 25; refine (HW.out _).mono ?_; rintro e w1 ⟨rfl, ⟨x4, rfl⟩⟩)
    | (go_at_call 24; refine (HP.out _ (hL.out.plus (by repeat' (first | exact Plus.refl _ | refine Plus.alloc ?_ _ | refine Plus.plus ?_ _ | refine Plus.drew ?_ | refine Plus.drewN ?_ _)))).mono ?_; rintro e w1 ⟨rfl, ⟨x5, rfl⟩⟩)
    | (go_at_call 22; refine (HS.out _).mono ?_; rintro e w1 ⟨rfl, ⟨x6, rfl⟩⟩))
  go_returns
  exact ⟨rfl, (by repeat' (first | exact Plus.refl _ | refine Plus.alloc ?_ _ | refine Plus.plus ?_ _ | refine Plus.drew ?_ | refine Plus.drewN ?_ _))⟩
set_option maxRecDepth 100000 in
set_option maxHeartbeats 4000000 in
theorem number_none (A : Option Addr) (xs : List Nat) (n c : Nat) (w : World) (h : Hid (Ar .u16 65536 w A xs n c)) (hs : n ≤ 1048576) (hl : Hid (low xs = true)) (T : List UInt8) (hT : Hid (Lib.trimS (plS xs).data.toList (⟨#[32, 9, 10, 13]⟩ : ByteArray).data.toList = T)) (hz : (plS xs).size ≤ 1048576)
    (hne : Hid (T ≠ [])) (Z : List UInt8) (hZ : Hid (unsT T = Z)) (b : Bool) (hb : Hid (Lib.hasPrefix T [45] = b)) (hi : Hid (Z ≠ infS)) (hzl : Z.length ≤ 1048576) (htl : T.length ≤ 1048576) (hta : Hid (asc T)) (hd : Hid (Z = [] ∨ Z ≠ [] ∧ decide (Lib.trimS Z digS = []) = false))
    (c1 c2 r : Bool) (h1 : Hid (Lib.containsAny T digS = c1)) (h2 : Hid (decide (Lib.trimS T numS = []) = c2)) (hr : Hid (r = !(c1 && c2))) :
    Calls Tryz.prog 7 #[.slice A n c] w fun e w' => e = .returned (.tuple #[.agg #[.int .i64 2, .int .i64 0], .bool r]) ∧ Plus w w' := by
  obtain ⟨t1, t2, t3⟩ := str_ne hne.out
  have hu := unsigned_c T
  rw [hZ.out, hb.out] at hu
  have HU := Lib.hid hu
  have i1 : ((str Z).toList == [73, 110, 102, 105, 110, 105, 116, 121]) = false := by
    rw [str_list]
    have := hi.out
    unfold infS at this
    simpa using this
  have hho : ∀ w : World, Lib.trimS Z digS ≠ [] → Calls Tryz.prog 23 #[.string (str Z), .string ⟨#[48, 49, 50, 51, 52, 53, 54, 55, 56, 57]⟩] w fun e w' => e = .returned (.bool false) ∧ Plus w w' := fun w q => hasOnly_c Z digS w (by omega) (by decide) dig_asc false (Lib.hid (by simpa using q))
  have HH := Lib.hid hho
  have hh2 : ∀ w : World, Calls Tryz.prog 23 #[.string (str T), .string (str numS)] w fun e w' => e = .returned (.bool c2) ∧ Plus w w' := fun w => hasOnly_c T numS w (by omega) (by decide) num_asc c2 h2
  have HN := Lib.hid hh2
  have hca : ∀ w : World, Calls Tryz.prog 26 #[.string (str T), .string ⟨#[48, 49, 50, 51, 52, 53, 54, 55, 56, 57]⟩] w fun e w' => e = .returned (.bool c1) ∧ Plus w w' := fun w => by
    have q := containsAny_c (str T) (str digS) w (by rw [str_size]; omega) (by decide) (asc_get hta.out) (asc_get dig_asc)
    rw [str_data, str_data, h1.out] at q
    exact q
  have HC := Lib.hid hca
  clear hu hho hca hh2
  obtain rfl := hr.out
  rcases hd.out with rfl | ⟨hz0, hd1⟩
  · have z1 : ((str []).toList == []) = true := by rw [str_list]; rfl
    have z2 : (str []).toList.isEmpty = true := by rw [str_list]; rfl
    have z3 : (str []).toList = [] := str_list []
    cases c1
    all_goals
      go_enter Tryz.func7, Tryz.ntmps7
      go_wp2_with (first
        | (go_at_call 5; refine (plain_c _ _ _ _ _ (⟨h.out.rd.plus (by repeat' (first | exact Plus.refl _ | refine Plus.alloc ?_ _ | refine Plus.plus ?_ _ | refine Plus.drew ?_ | refine Plus.drewN ?_ _)), h.out.len, h.out.cap, h.out.max, h.out.bd⟩) (by omega)).mono ?_; rintro e w1 ⟨rfl, ⟨x1, rfl⟩⟩; rw [hl.out])
        | (go_at_call 19; refine (trim_n hT _ (by omega) (by decide) blank_asc).mono ?_; rintro e w1 ⟨rfl, ⟨x2, rfl⟩⟩)
        | (go_at_call 20; refine (HU.out _).mono ?_; rintro e w1 ⟨rfl, rfl⟩)
        | (go_at_call 26; refine (HC.out _).mono ?_; rintro e w1 ⟨rfl, ⟨x3, rfl⟩⟩)
        | (go_at_call 23; refine (HN.out _).mono ?_; rintro e w1 ⟨rfl, ⟨x4, rfl⟩⟩))
      go_returns
      exact ⟨rfl, (by repeat' (first | exact Plus.refl _ | refine Plus.alloc ?_ _ | refine Plus.plus ?_ _ | refine Plus.drew ?_ | refine Plus.drewN ?_ _))⟩
  · obtain ⟨z1, z2, z3⟩ := str_ne hz0
    have hd2 : Lib.trimS Z digS ≠ [] := by simpa using hd1
    have HD2 := Lib.hid hd2
    clear hz0 hd1 hd2
    cases c1
    all_goals
      go_enter Tryz.func7, Tryz.ntmps7
      go_wp2_with (first
        | (go_at_call 5; refine (plain_c _ _ _ _ _ (⟨h.out.rd.plus (by repeat' (first | exact Plus.refl _ | refine Plus.alloc ?_ _ | refine Plus.plus ?_ _ | refine Plus.drew ?_ | refine Plus.drewN ?_ _)), h.out.len, h.out.cap, h.out.max, h.out.bd⟩) (by omega)).mono ?_; rintro e w1 ⟨rfl, ⟨x1, rfl⟩⟩; rw [hl.out])
        | (go_at_call 19; refine (trim_n hT _ (by omega) (by decide) blank_asc).mono ?_; rintro e w1 ⟨rfl, ⟨x2, rfl⟩⟩)
        | (go_at_call 20; refine (HU.out _).mono ?_; rintro e w1 ⟨rfl, rfl⟩)
        | (go_at_call_of 23 (Value.string (str Z)); refine (HH.out _ HD2.out).mono ?_; rintro e w1 ⟨rfl, ⟨x3, rfl⟩⟩)
        | (go_at_call 26; refine (HC.out _).mono ?_; rintro e w1 ⟨rfl, ⟨x3, rfl⟩⟩)
        | (go_at_call_of 23 (Value.string (str T)); refine (HN.out _).mono ?_; rintro e w1 ⟨rfl, ⟨x4, rfl⟩⟩))
      go_returns
      exact ⟨rfl, (by repeat' (first | exact Plus.refl _ | refine Plus.alloc ?_ _ | refine Plus.plus ?_ _ | refine Plus.drew ?_ | refine Plus.drewN ?_ _))⟩
end Go.Proofs.YtdckonlipinblaaGreatDoor
