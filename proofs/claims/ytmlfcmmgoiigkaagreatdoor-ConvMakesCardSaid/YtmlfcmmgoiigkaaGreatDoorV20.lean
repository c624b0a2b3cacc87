/- Contract: conv.bigOf. -/
import Derived.Test.YtmlfcmmgoiigkaaGreatDoorV19
namespace Go.Proofs.YtmlfcmmgoiigkaaGreatDoor
open Go.RowKit

def pfxS : List UInt8 := [48, 49, 50, 51, 52, 53, 54, 55, 56, 57, 97, 98, 99, 100, 101, 102, 65, 66, 67, 68, 69, 70, 120, 88, 111, 79]
theorem pfx_asc : asc pfxS := by unfold asc pfxS; decide
/-- A BigInt and a signal. -/
structure G2 where
  z : Int
  s : Int
def bgD (l : List UInt8) : G2 :=
  if Lib.trimLeftS l [48] = [] then ⟨0, 0⟩ else if Bg.parE (Lib.trimLeftS l [48]) = 0 then ⟨Bg.parI (Lib.trimLeftS l [48]), 0⟩ else ⟨0, 3⟩
theorem par_lt (l : List UInt8) : (Bg.parI l).natAbs < Bg.B ^ 8 := by
  have hB : 0 < Bg.B ^ 8 := by rw [Bg.B_eq]; decide
  unfold Bg.parI
  cases hr : Bg.rd l with
  | form => simpa using hB
  | long => simpa using hB
  | is n =>
    simp only
    unfold Bg.rd at hr
    simp only at hr
    generalize (if (l.head? == some 45) = true then l.tail else l) = d at hr
    by_cases h1 : Bg.isCnt d = false ∨ (l.head? == some 45) = true ∧ d = [48]
    · rw [if_pos h1] at hr; cases hr
    · rw [if_neg h1] at hr
      by_cases h2 : Bg.B ^ 8 ≤ Bg.num d
      · rw [if_pos h2] at hr; cases hr
      · rw [if_neg h2] at hr
        injection hr with hr
        subst hr
        split <;> omega
theorem bod_c (l : List UInt8) (hl : l.length ≤ 1000000) (w : World) {pb : Bool} {us : List Nat} {z s : Int} (hz : Hid (bgD l = ⟨z, s⟩)) (hN : Hid (Bg.Nm z pb us)) : Calls Tryz.prog 98 #[.string (str l)] w (BgP pb us s w) := by
  have q := hz.out
  have hN' := hN.out
  unfold bgD at q
  have nil0 : ∀ {pb : Bool} {us : List Nat}, Bg.Nm 0 pb us → pb = false ∧ us = [] := fun h => ⟨h.neg.symm, h.mag.symm.trans Bg.dig_zero⟩
  by_cases h0 : Lib.trimLeftS l [48] = []
  · rw [if_pos h0] at q
    injection q with q1 q2
    subst q1 q2
    obtain ⟨rfl, rfl⟩ := nil0 hN'
    exact bod_0 (Lib.hid (by rw [str_data]; exact h0)) w
  · rw [if_neg h0] at q
    have hsub : (Lib.trimLeftS l [48]).length ≤ l.length := (trimL_sub l [48]).length_le
    by_cases h1 : Bg.parE (Lib.trimLeftS l [48]) = 0
    · rw [if_pos h1] at q
      injection q with q1 q2
      subst q1 q2
      exact bod_y (Lib.hid (by rw [str_data])) (Lib.hid h0) (Lib.hid ⟨hN', by rw [str_data], by rw [str_data]; exact h1, by rw [str_size]; omega⟩) w
    · rw [if_neg h1] at q
      injection q with q1 q2
      subst q1 q2
      obtain ⟨rfl, rfl⟩ := nil0 hN'
      exact bod_e (Lib.hid (by rw [str_data])) (Lib.hid h0) (Lib.hid ⟨Bg.Nm.mk' (par_lt _), by rw [str_data], by rw [str_data], by rw [str_size]; omega⟩) (by simp [h1]) w
set_option maxRecDepth 100000 in
set_option maxHeartbeats 4000000 in
theorem bigof_l {A : Option Addr} {xs : List Nat} {n c : Nat} (w : World) (h : Hid (Ar .u16 65536 w A xs n c)) (hs : n ≤ 4096) (hl : Hid (low xs = false)) : Calls Tryz.prog 56 #[.slice A n c] w (BgP false [] 5 w) := by
  go_enter Tryz.func56, Tryz.ntmps56
  go_wp2_with (go_at_call 94; refine (plain_c _ _ _ _ _ (h.out.plus (by repeat' (first | exact Plus.refl _ | refine Plus.alloc ?_ _ | refine Plus.plus ?_ _ | refine Plus.drew ?_ | refine Plus.drewN ?_ _))) (by omega)).mono ?_; rintro e w1 ⟨rfl, ⟨x1, rfl⟩⟩; rw [hl.out])
  go_returns
  exact ⟨none, 0, rfl, Bg.arg_nil, (by repeat' (first | exact Plus.refl _ | refine Plus.alloc ?_ _ | refine Plus.plus ?_ _ | refine Plus.drew ?_ | refine Plus.drewN ?_ _))⟩
set_option maxRecDepth 100000 in
set_option maxHeartbeats 4000000 in
theorem bigof_0 {A : Option Addr} {xs : List Nat} {n c : Nat} (w : World) (h : Hid (Ar .u16 65536 w A xs n c)) (hs : n ≤ 4096) (hl : Hid (low xs = true)) (hT : Hid (Lib.trimS (plS xs).data.toList (⟨#[32, 9, 10, 13]⟩ : ByteArray).data.toList = [])) (hz : (plS xs).size ≤ 1048576) : Calls Tryz.prog 56 #[.slice A n c] w (BgP false [] 0 w) := by
  have b0 : ((str []).toList == []) = true := by rw [str_list]; rfl
  have b1 : (str []).toList = [] := str_list _
  have hu := cunsigned_c []
  have HU := Lib.hid hu
  clear hu
  go_enter Tryz.func56, Tryz.ntmps56
  go_wp2_with (first | (go_at_call 94; refine (plain_c _ _ _ _ _ (h.out.plus (by repeat' (first | exact Plus.refl _ | refine Plus.alloc ?_ _ | refine Plus.plus ?_ _ | refine Plus.drew ?_ | refine Plus.drewN ?_ _))) (by omega)).mono ?_; rintro e w1 ⟨rfl, ⟨x1, rfl⟩⟩; rw [hl.out]) | (go_at_call 95; refine (trim_n hT _ (by omega) (by decide) blank_asc).mono ?_; rintro e w1 ⟨rfl, ⟨x2, rfl⟩⟩) | (go_at_call 96; refine (HU.out _).mono ?_; rintro e w1 ⟨rfl, rfl⟩))
  go_returns
  exact ⟨none, 0, rfl, Bg.arg_nil, (by repeat' (first | exact Plus.refl _ | refine Plus.alloc ?_ _ | refine Plus.plus ?_ _ | refine Plus.drew ?_ | refine Plus.drewN ?_ _))⟩
theorem bneg_v {an : Bool} {A : Option Addr} {xs : List Nat} {n c : Nat} {a r : Int} {pb : Bool} {us : List Nat} (hA : Hid (Bg.bigI an xs = a)) (hr : Hid (Bg.NegN a r pb us)) (w : World) (ha : Bg.Arg w A xs n c) : Calls Tryz.prog 99 #[.agg #[.bool an, .slice A n c]] w fun e w' => ∃ (A1 : Option Addr) (c1 : Nat), e = .returned (.agg #[.bool pb, .slice A1 us.length c1]) ∧ Bg.Arg w' A1 us us.length c1 ∧ Plus w w' := Bg.neg_n hA hr w ha
set_option maxRecDepth 100000 in
set_option maxHeartbeats 4000000 in
theorem bigof_p {A : Option Addr} {xs : List Nat} {n c : Nat} (w : World) (h : Hid (Ar .u16 65536 w A xs n c)) (hs : n ≤ 4096) (hl : Hid (low xs = true)) {T : List UInt8} (hT : Hid (Lib.trimS (plS xs).data.toList (⟨#[32, 9, 10, 13]⟩ : ByteArray).data.toList = T)) (hz : (plS xs).size ≤ 1048576) (hne : Hid (T ≠ [])) {Z : List UInt8} (hZ : Hid (unsT T = Z)) (hb : Hid (Lib.hasPrefix T [45] = false)) (hzl : Z.length ≤ 1000000) (hzn : Hid (Z ≠ [])) (hd : Hid (decide (Lib.trimS Z digS = []) = true)) {pb : Bool} {us : List Nat} {z s : Int} (hG : Hid (bgD Z = ⟨z, s⟩)) (hN : Hid (Bg.Nm z pb us)) : Calls Tryz.prog 56 #[.slice A n c] w (BgP pb us s w) := by
  obtain ⟨t1, t2, t3⟩ := str_ne hne.out
  obtain ⟨z1, z2, z3⟩ := str_ne hzn.out
  have hu := cunsigned_c T
  rw [hZ.out, hb.out] at hu
  have HU := Lib.hid hu
  clear hu
  have hho : ∀ w : World, Calls Tryz.prog 97 #[.string (str Z), .string ⟨#[48, 49, 50, 51, 52, 53, 54, 55, 56, 57]⟩] w fun e w' => e = .returned (.bool true) ∧ Plus w w' := fun w => chasOnly_c Z digS w (by omega) (by decide) dig_asc true hd
  have HH := Lib.hid hho
  clear hho
  go_enter Tryz.func56, Tryz.ntmps56
  go_wp2_with (first | (go_at_call 94; refine (plain_c _ _ _ _ _ (h.out.plus (by repeat' (first | exact Plus.refl _ | refine Plus.alloc ?_ _ | refine Plus.plus ?_ _ | refine Plus.drew ?_ | refine Plus.drewN ?_ _))) (by omega)).mono ?_; rintro e w1 ⟨rfl, ⟨x1, rfl⟩⟩; rw [hl.out]) | (go_at_call 95; refine (trim_n hT _ (by omega) (by decide) blank_asc).mono ?_; rintro e w1 ⟨rfl, ⟨x2, rfl⟩⟩) | (go_at_call 96; refine (HU.out _).mono ?_; rintro e w1 ⟨rfl, rfl⟩) | (go_at_call_of 97 (Value.string (str Z)); refine (HH.out _).mono ?_; rintro e w1 ⟨rfl, ⟨x3, rfl⟩⟩) | (go_at_call 98; (with_reducible refine (bod_c Z hzl _ hG hN).mono ?_); rintro e w1 ⟨A1, c1, rfl, hA, ⟨x4, rfl⟩⟩; have HA := Lib.hid hA; clear hA))
  go_returns
  exact ⟨A1, c1, rfl, arg_off (HA.out.plus (Plus.alloc (Plus.refl _) (.cells #[.bool pb, .slice A1 us.length c1] 26))) (by repeat' (first | exact Off.refl _ _ | refine Off.plus ?_ _ | refine Off.alloc ?_ _ | exact Off.allocN (Off.refl _ _) (noB _ _ _ _ _) | exact Off.allocN (Off.refl _ _) (noV _ _ _ _ _ _ _ _ _ _ _ _) | refine Off.allocN ?_ (noB _ _ _ _ _) | refine Off.allocN ?_ (noV _ _ _ _ _ _ _ _ _ _ _ _) | refine Off.drew ?_)), (by repeat' (first | exact Plus.refl _ | refine Plus.alloc ?_ _ | refine Plus.plus ?_ _ | refine Plus.drew ?_ | refine Plus.drewN ?_ _))⟩
set_option maxRecDepth 100000 in
set_option maxHeartbeats 4000000 in
theorem bigof_m {A : Option Addr} {xs : List Nat} {n c : Nat} (w : World) (h : Hid (Ar .u16 65536 w A xs n c)) (hs : n ≤ 4096) (hl : Hid (low xs = true)) {T : List UInt8} (hT : Hid (Lib.trimS (plS xs).data.toList (⟨#[32, 9, 10, 13]⟩ : ByteArray).data.toList = T)) (hz : (plS xs).size ≤ 1048576) (hne : Hid (T ≠ [])) {Z : List UInt8} (hZ : Hid (unsT T = Z)) (hb : Hid (Lib.hasPrefix T [45] = true)) (hzl : Z.length ≤ 1000000) (hzn : Hid (Z ≠ [])) (hd : Hid (decide (Lib.trimS Z digS = []) = true)) {pb pc : Bool} {us vs : List Nat} {z y s : Int} (hG : Hid (bgD Z = ⟨z, s⟩)) (hN : Hid (Bg.Nm z pb us)) (hV : Hid (Bg.bigI pb us = z)) (hM : Hid (Bg.NegN z y pc vs)) : Calls Tryz.prog 56 #[.slice A n c] w (BgP pc vs s w) := by
  obtain ⟨t1, t2, t3⟩ := str_ne hne.out
  obtain ⟨z1, z2, z3⟩ := str_ne hzn.out
  have hu := cunsigned_c T
  rw [hZ.out, hb.out] at hu
  have HU := Lib.hid hu
  clear hu
  have hho : ∀ w : World, Calls Tryz.prog 97 #[.string (str Z), .string ⟨#[48, 49, 50, 51, 52, 53, 54, 55, 56, 57]⟩] w fun e w' => e = .returned (.bool true) ∧ Plus w w' := fun w => chasOnly_c Z digS w (by omega) (by decide) dig_asc true hd
  have HH := Lib.hid hho
  clear hho
  go_enter Tryz.func56, Tryz.ntmps56
  go_wp2_with (first | (go_at_call 94; refine (plain_c _ _ _ _ _ (h.out.plus (by repeat' (first | exact Plus.refl _ | refine Plus.alloc ?_ _ | refine Plus.plus ?_ _ | refine Plus.drew ?_ | refine Plus.drewN ?_ _))) (by omega)).mono ?_; rintro e w1 ⟨rfl, ⟨x1, rfl⟩⟩; rw [hl.out]) | (go_at_call 95; refine (trim_n hT _ (by omega) (by decide) blank_asc).mono ?_; rintro e w1 ⟨rfl, ⟨x2, rfl⟩⟩) | (go_at_call 96; refine (HU.out _).mono ?_; rintro e w1 ⟨rfl, rfl⟩) | (go_at_call_of 97 (Value.string (str Z)); refine (HH.out _).mono ?_; rintro e w1 ⟨rfl, ⟨x3, rfl⟩⟩) | (go_at_call 98; (with_reducible refine (bod_c Z hzl _ hG hN).mono ?_); rintro e w1 ⟨A1, c1, rfl, hA, ⟨x4, rfl⟩⟩; have HA := Lib.hid hA; clear hA) | (go_at_call 99; (with_reducible refine (bneg_v hV hM _ (by have q := HA.out.plus (Plus.alloc (Plus.refl _) (.cells #[.bool pb, .slice A1 us.length c1] 26)); exact q)).mono ?_); rintro e w1 ⟨A2, c2, rfl, hA2, ⟨x5, rfl⟩⟩; have HA2 := Lib.hid hA2; clear hA2))
  go_returns
  exact ⟨A2, c2, rfl, arg_off HA2.out (by repeat' (first | exact Off.refl _ _ | refine Off.plus ?_ _ | refine Off.alloc ?_ _ | exact Off.allocN (Off.refl _ _) (noB _ _ _ _ _) | exact Off.allocN (Off.refl _ _) (noV _ _ _ _ _ _ _ _ _ _ _ _) | refine Off.allocN ?_ (noB _ _ _ _ _) | refine Off.allocN ?_ (noV _ _ _ _ _ _ _ _ _ _ _ _) | refine Off.drew ?_)), (by repeat' (first | exact Plus.refl _ | refine Plus.alloc ?_ _ | refine Plus.plus ?_ _ | refine Plus.drew ?_ | refine Plus.drewN ?_ _))⟩
set_option maxRecDepth 100000 in
set_option maxHeartbeats 4000000 in
theorem bigof_efc {A : Option Addr} {xs : List Nat} {n c : Nat} (w : World) (h : Hid (Ar .u16 65536 w A xs n c)) (hs : n ≤ 4096) (hl : Hid (low xs = true)) {T : List UInt8} (hT : Hid (Lib.trimS (plS xs).data.toList (⟨#[32, 9, 10, 13]⟩ : ByteArray).data.toList = T)) (hz : (plS xs).size ≤ 1048576) (hne : Hid (T ≠ [])) {Z : List UInt8} (hZ : Hid (unsT T = Z)) {b : Bool} (hb : Hid (Lib.hasPrefix T [45] = b)) (hzl : Z.length ≤ 1000000) (hze : Hid (Z = [])) (htl : T.length ≤ 1048576) (hta : asc T) {c2 : Bool} (h1 : Hid (Lib.containsAny T digS = false)) (h2 : Hid (decide (Lib.trimS T pfxS = []) = c2)) : Calls Tryz.prog 56 #[.slice A n c] w (BgP false [] 5 w) := by
  have hu := cunsigned_c T
  rw [hZ.out, hb.out] at hu
  have HU := Lib.hid hu
  clear hu
  have hca : ∀ w : World, Calls Tryz.prog 100 #[.string (str T), .string ⟨#[48, 49, 50, 51, 52, 53, 54, 55, 56, 57]⟩] w fun e w' => e = .returned (.bool false) ∧ Plus w w' := fun w => by
    have q := containsAny_c (str T) (str digS) w (by rw [str_size]; omega) (by decide) (asc_get hta) (asc_get dig_asc)
    rw [str_data, str_data, h1.out] at q
    exact q
  have HC := Lib.hid hca
  have hkk : ∀ w : World, Calls Tryz.prog 97 #[.string (str T), .string ⟨#[48, 49, 50, 51, 52, 53, 54, 55, 56, 57, 97, 98, 99, 100, 101, 102, 65, 66, 67, 68, 69, 70, 120, 88, 111, 79]⟩] w fun e w' => e = .returned (.bool c2) ∧ Plus w w' := fun w => chasOnly_c T pfxS w (by omega) (by decide) pfx_asc c2 h2
  have HK := Lib.hid hkk
  obtain ⟨t1, t2, t3⟩ := str_ne hne.out
  clear hca hkk
  obtain rfl := hze.out
  have b0 : ((str []).toList == []) = true := by rw [str_list]; rfl
  have b1 : (str []).toList = [] := str_list _
  go_enter Tryz.func56, Tryz.ntmps56
  go_wp2_with (first | (go_at_call 94; refine (plain_c _ _ _ _ _ (h.out.plus (by repeat' (first | exact Plus.refl _ | refine Plus.alloc ?_ _ | refine Plus.plus ?_ _ | refine Plus.drew ?_ | refine Plus.drewN ?_ _))) (by omega)).mono ?_; rintro e w1 ⟨rfl, ⟨x1, rfl⟩⟩; rw [hl.out]) | (go_at_call 95; refine (trim_n hT _ (by omega) (by decide) blank_asc).mono ?_; rintro e w1 ⟨rfl, ⟨x2, rfl⟩⟩) | (go_at_call 96; refine (HU.out _).mono ?_; rintro e w1 ⟨rfl, rfl⟩) | (go_at_call 100; refine (HC.out _).mono ?_; rintro e w1 ⟨rfl, ⟨x6, rfl⟩⟩) | (go_at_call_of 97 (Value.string ⟨#[48, 49, 50, 51, 52, 53, 54, 55, 56, 57, 97, 98, 99, 100, 101, 102, 65, 66, 67, 68, 69, 70, 120, 88, 111, 79]⟩); refine (HK.out _).mono ?_; rintro e w1 ⟨rfl, ⟨x7, rfl⟩⟩))
  go_returns
  exact ⟨none, 0, rfl, Bg.arg_nil, (by repeat' (first | exact Plus.refl _ | refine Plus.alloc ?_ _ | refine Plus.plus ?_ _ | refine Plus.drew ?_ | refine Plus.drewN ?_ _))⟩
set_option maxRecDepth 100000 in
set_option maxHeartbeats 4000000 in
theorem bigof_etf {A : Option Addr} {xs : List Nat} {n c : Nat} (w : World) (h : Hid (Ar .u16 65536 w A xs n c)) (hs : n ≤ 4096) (hl : Hid (low xs = true)) {T : List UInt8} (hT : Hid (Lib.trimS (plS xs).data.toList (⟨#[32, 9, 10, 13]⟩ : ByteArray).data.toList = T)) (hz : (plS xs).size ≤ 1048576) (hne : Hid (T ≠ [])) {Z : List UInt8} (hZ : Hid (unsT T = Z)) {b : Bool} (hb : Hid (Lib.hasPrefix T [45] = b)) (hzl : Z.length ≤ 1000000) (hze : Hid (Z = [])) (htl : T.length ≤ 1048576) (hta : asc T) (h1 : Hid (Lib.containsAny T digS = true)) (h2 : Hid (decide (Lib.trimS T pfxS = []) = false)) : Calls Tryz.prog 56 #[.slice A n c] w (BgP false [] 5 w) := by
  have hu := cunsigned_c T
  rw [hZ.out, hb.out] at hu
  have HU := Lib.hid hu
  clear hu
  have hca : ∀ w : World, Calls Tryz.prog 100 #[.string (str T), .string ⟨#[48, 49, 50, 51, 52, 53, 54, 55, 56, 57]⟩] w fun e w' => e = .returned (.bool true) ∧ Plus w w' := fun w => by
    have q := containsAny_c (str T) (str digS) w (by rw [str_size]; omega) (by decide) (asc_get hta) (asc_get dig_asc)
    rw [str_data, str_data, h1.out] at q
    exact q
  have HC := Lib.hid hca
  have hkk : ∀ w : World, Calls Tryz.prog 97 #[.string (str T), .string ⟨#[48, 49, 50, 51, 52, 53, 54, 55, 56, 57, 97, 98, 99, 100, 101, 102, 65, 66, 67, 68, 69, 70, 120, 88, 111, 79]⟩] w fun e w' => e = .returned (.bool false) ∧ Plus w w' := fun w => chasOnly_c T pfxS w (by omega) (by decide) pfx_asc false h2
  have HK := Lib.hid hkk
  obtain ⟨t1, t2, t3⟩ := str_ne hne.out
  clear hca hkk
  obtain rfl := hze.out
  have b0 : ((str []).toList == []) = true := by rw [str_list]; rfl
  have b1 : (str []).toList = [] := str_list _
  go_enter Tryz.func56, Tryz.ntmps56
  go_wp2_with (first | (go_at_call 94; refine (plain_c _ _ _ _ _ (h.out.plus (by repeat' (first | exact Plus.refl _ | refine Plus.alloc ?_ _ | refine Plus.plus ?_ _ | refine Plus.drew ?_ | refine Plus.drewN ?_ _))) (by omega)).mono ?_; rintro e w1 ⟨rfl, ⟨x1, rfl⟩⟩; rw [hl.out]) | (go_at_call 95; refine (trim_n hT _ (by omega) (by decide) blank_asc).mono ?_; rintro e w1 ⟨rfl, ⟨x2, rfl⟩⟩) | (go_at_call 96; refine (HU.out _).mono ?_; rintro e w1 ⟨rfl, rfl⟩) | (go_at_call 100; refine (HC.out _).mono ?_; rintro e w1 ⟨rfl, ⟨x6, rfl⟩⟩) | (go_at_call_of 97 (Value.string ⟨#[48, 49, 50, 51, 52, 53, 54, 55, 56, 57, 97, 98, 99, 100, 101, 102, 65, 66, 67, 68, 69, 70, 120, 88, 111, 79]⟩); refine (HK.out _).mono ?_; rintro e w1 ⟨rfl, ⟨x7, rfl⟩⟩))
  go_returns
  exact ⟨none, 0, rfl, Bg.arg_nil, (by repeat' (first | exact Plus.refl _ | refine Plus.alloc ?_ _ | refine Plus.plus ?_ _ | refine Plus.drew ?_ | refine Plus.drewN ?_ _))⟩
set_option maxRecDepth 100000 in
set_option maxHeartbeats 4000000 in
theorem bigof_ett {A : Option Addr} {xs : List Nat} {n c : Nat} (w : World) (h : Hid (Ar .u16 65536 w A xs n c)) (hs : n ≤ 4096) (hl : Hid (low xs = true)) {T : List UInt8} (hT : Hid (Lib.trimS (plS xs).data.toList (⟨#[32, 9, 10, 13]⟩ : ByteArray).data.toList = T)) (hz : (plS xs).size ≤ 1048576) (hne : Hid (T ≠ [])) {Z : List UInt8} (hZ : Hid (unsT T = Z)) {b : Bool} (hb : Hid (Lib.hasPrefix T [45] = b)) (hzl : Z.length ≤ 1000000) (hze : Hid (Z = [])) (htl : T.length ≤ 1048576) (hta : asc T) (h1 : Hid (Lib.containsAny T digS = true)) (h2 : Hid (decide (Lib.trimS T pfxS = []) = true)) : Calls Tryz.prog 56 #[.slice A n c] w (BgP false [] 3 w) := by
  have hu := cunsigned_c T
  rw [hZ.out, hb.out] at hu
  have HU := Lib.hid hu
  clear hu
  have hca : ∀ w : World, Calls Tryz.prog 100 #[.string (str T), .string ⟨#[48, 49, 50, 51, 52, 53, 54, 55, 56, 57]⟩] w fun e w' => e = .returned (.bool true) ∧ Plus w w' := fun w => by
    have q := containsAny_c (str T) (str digS) w (by rw [str_size]; omega) (by decide) (asc_get hta) (asc_get dig_asc)
    rw [str_data, str_data, h1.out] at q
    exact q
  have HC := Lib.hid hca
  have hkk : ∀ w : World, Calls Tryz.prog 97 #[.string (str T), .string ⟨#[48, 49, 50, 51, 52, 53, 54, 55, 56, 57, 97, 98, 99, 100, 101, 102, 65, 66, 67, 68, 69, 70, 120, 88, 111, 79]⟩] w fun e w' => e = .returned (.bool true) ∧ Plus w w' := fun w => chasOnly_c T pfxS w (by omega) (by decide) pfx_asc true h2
  have HK := Lib.hid hkk
  obtain ⟨t1, t2, t3⟩ := str_ne hne.out
  clear hca hkk
  obtain rfl := hze.out
  have b0 : ((str []).toList == []) = true := by rw [str_list]; rfl
  have b1 : (str []).toList = [] := str_list _
  go_enter Tryz.func56, Tryz.ntmps56
  go_wp2_with (first | (go_at_call 94; refine (plain_c _ _ _ _ _ (h.out.plus (by repeat' (first | exact Plus.refl _ | refine Plus.alloc ?_ _ | refine Plus.plus ?_ _ | refine Plus.drew ?_ | refine Plus.drewN ?_ _))) (by omega)).mono ?_; rintro e w1 ⟨rfl, ⟨x1, rfl⟩⟩; rw [hl.out]) | (go_at_call 95; refine (trim_n hT _ (by omega) (by decide) blank_asc).mono ?_; rintro e w1 ⟨rfl, ⟨x2, rfl⟩⟩) | (go_at_call 96; refine (HU.out _).mono ?_; rintro e w1 ⟨rfl, rfl⟩) | (go_at_call 100; refine (HC.out _).mono ?_; rintro e w1 ⟨rfl, ⟨x6, rfl⟩⟩) | (go_at_call_of 97 (Value.string ⟨#[48, 49, 50, 51, 52, 53, 54, 55, 56, 57, 97, 98, 99, 100, 101, 102, 65, 66, 67, 68, 69, 70, 120, 88, 111, 79]⟩); refine (HK.out _).mono ?_; rintro e w1 ⟨rfl, ⟨x7, rfl⟩⟩))
  go_returns
  exact ⟨none, 0, rfl, Bg.arg_nil, (by repeat' (first | exact Plus.refl _ | refine Plus.alloc ?_ _ | refine Plus.plus ?_ _ | refine Plus.drew ?_ | refine Plus.drewN ?_ _))⟩
set_option maxRecDepth 100000 in
set_option maxHeartbeats 4000000 in
theorem bigof_nfc {A : Option Addr} {xs : List Nat} {n c : Nat} (w : World) (h : Hid (Ar .u16 65536 w A xs n c)) (hs : n ≤ 4096) (hl : Hid (low xs = true)) {T : List UInt8} (hT : Hid (Lib.trimS (plS xs).data.toList (⟨#[32, 9, 10, 13]⟩ : ByteArray).data.toList = T)) (hz : (plS xs).size ≤ 1048576) (hne : Hid (T ≠ [])) {Z : List UInt8} (hZ : Hid (unsT T = Z)) {b : Bool} (hb : Hid (Lib.hasPrefix T [45] = b)) (hzl : Z.length ≤ 1000000) (hzn : Hid (Z ≠ [])) (hd : Hid (decide (Lib.trimS Z digS = []) = false)) (htl : T.length ≤ 1048576) (hta : asc T) {c2 : Bool} (h1 : Hid (Lib.containsAny T digS = false)) (h2 : Hid (decide (Lib.trimS T pfxS = []) = c2)) : Calls Tryz.prog 56 #[.slice A n c] w (BgP false [] 5 w) := by
  have hu := cunsigned_c T
  rw [hZ.out, hb.out] at hu
  have HU := Lib.hid hu
  clear hu
  have hca : ∀ w : World, Calls Tryz.prog 100 #[.string (str T), .string ⟨#[48, 49, 50, 51, 52, 53, 54, 55, 56, 57]⟩] w fun e w' => e = .returned (.bool false) ∧ Plus w w' := fun w => by
    have q := containsAny_c (str T) (str digS) w (by rw [str_size]; omega) (by decide) (asc_get hta) (asc_get dig_asc)
    rw [str_data, str_data, h1.out] at q
    exact q
  have HC := Lib.hid hca
  have hkk : ∀ w : World, Calls Tryz.prog 97 #[.string (str T), .string ⟨#[48, 49, 50, 51, 52, 53, 54, 55, 56, 57, 97, 98, 99, 100, 101, 102, 65, 66, 67, 68, 69, 70, 120, 88, 111, 79]⟩] w fun e w' => e = .returned (.bool c2) ∧ Plus w w' := fun w => chasOnly_c T pfxS w (by omega) (by decide) pfx_asc c2 h2
  have HK := Lib.hid hkk
  obtain ⟨t1, t2, t3⟩ := str_ne hne.out
  clear hca hkk
  obtain ⟨z1, z2, z3⟩ := str_ne hzn.out
  have hho : ∀ w : World, Calls Tryz.prog 97 #[.string (str Z), .string ⟨#[48, 49, 50, 51, 52, 53, 54, 55, 56, 57]⟩] w fun e w' => e = .returned (.bool false) ∧ Plus w w' := fun w => chasOnly_c Z digS w (by omega) (by decide) dig_asc false hd
  have HH := Lib.hid hho
  clear hho
  go_enter Tryz.func56, Tryz.ntmps56
  go_wp2_with (first | (go_at_call 94; refine (plain_c _ _ _ _ _ (h.out.plus (by repeat' (first | exact Plus.refl _ | refine Plus.alloc ?_ _ | refine Plus.plus ?_ _ | refine Plus.drew ?_ | refine Plus.drewN ?_ _))) (by omega)).mono ?_; rintro e w1 ⟨rfl, ⟨x1, rfl⟩⟩; rw [hl.out]) | (go_at_call 95; refine (trim_n hT _ (by omega) (by decide) blank_asc).mono ?_; rintro e w1 ⟨rfl, ⟨x2, rfl⟩⟩) | (go_at_call 96; refine (HU.out _).mono ?_; rintro e w1 ⟨rfl, rfl⟩) | (go_at_call_of 97 (Value.string ⟨#[48, 49, 50, 51, 52, 53, 54, 55, 56, 57]⟩); refine (HH.out _).mono ?_; rintro e w1 ⟨rfl, ⟨x3, rfl⟩⟩) | (go_at_call 100; refine (HC.out _).mono ?_; rintro e w1 ⟨rfl, ⟨x6, rfl⟩⟩) | (go_at_call_of 97 (Value.string ⟨#[48, 49, 50, 51, 52, 53, 54, 55, 56, 57, 97, 98, 99, 100, 101, 102, 65, 66, 67, 68, 69, 70, 120, 88, 111, 79]⟩); refine (HK.out _).mono ?_; rintro e w1 ⟨rfl, ⟨x7, rfl⟩⟩))
  go_returns
  exact ⟨none, 0, rfl, Bg.arg_nil, (by repeat' (first | exact Plus.refl _ | refine Plus.alloc ?_ _ | refine Plus.plus ?_ _ | refine Plus.drew ?_ | refine Plus.drewN ?_ _))⟩
set_option maxRecDepth 100000 in
set_option maxHeartbeats 4000000 in
theorem bigof_ntf {A : Option Addr} {xs : List Nat} {n c : Nat} (w : World) (h : Hid (Ar .u16 65536 w A xs n c)) (hs : n ≤ 4096) (hl : Hid (low xs = true)) {T : List UInt8} (hT : Hid (Lib.trimS (plS xs).data.toList (⟨#[32, 9, 10, 13]⟩ : ByteArray).data.toList = T)) (hz : (plS xs).size ≤ 1048576) (hne : Hid (T ≠ [])) {Z : List UInt8} (hZ : Hid (unsT T = Z)) {b : Bool} (hb : Hid (Lib.hasPrefix T [45] = b)) (hzl : Z.length ≤ 1000000) (hzn : Hid (Z ≠ [])) (hd : Hid (decide (Lib.trimS Z digS = []) = false)) (htl : T.length ≤ 1048576) (hta : asc T) (h1 : Hid (Lib.containsAny T digS = true)) (h2 : Hid (decide (Lib.trimS T pfxS = []) = false)) : Calls Tryz.prog 56 #[.slice A n c] w (BgP false [] 5 w) := by
  have hu := cunsigned_c T
  rw [hZ.out, hb.out] at hu
  have HU := Lib.hid hu
  clear hu
  have hca : ∀ w : World, Calls Tryz.prog 100 #[.string (str T), .string ⟨#[48, 49, 50, 51, 52, 53, 54, 55, 56, 57]⟩] w fun e w' => e = .returned (.bool true) ∧ Plus w w' := fun w => by
    have q := containsAny_c (str T) (str digS) w (by rw [str_size]; omega) (by decide) (asc_get hta) (asc_get dig_asc)
    rw [str_data, str_data, h1.out] at q
    exact q
  have HC := Lib.hid hca
  have hkk : ∀ w : World, Calls Tryz.prog 97 #[.string (str T), .string ⟨#[48, 49, 50, 51, 52, 53, 54, 55, 56, 57, 97, 98, 99, 100, 101, 102, 65, 66, 67, 68, 69, 70, 120, 88, 111, 79]⟩] w fun e w' => e = .returned (.bool false) ∧ Plus w w' := fun w => chasOnly_c T pfxS w (by omega) (by decide) pfx_asc false h2
  have HK := Lib.hid hkk
  obtain ⟨t1, t2, t3⟩ := str_ne hne.out
  clear hca hkk
  obtain ⟨z1, z2, z3⟩ := str_ne hzn.out
  have hho : ∀ w : World, Calls Tryz.prog 97 #[.string (str Z), .string ⟨#[48, 49, 50, 51, 52, 53, 54, 55, 56, 57]⟩] w fun e w' => e = .returned (.bool false) ∧ Plus w w' := fun w => chasOnly_c Z digS w (by omega) (by decide) dig_asc false hd
  have HH := Lib.hid hho
  clear hho
  go_enter Tryz.func56, Tryz.ntmps56
  go_wp2_with (first | (go_at_call 94; refine (plain_c _ _ _ _ _ (h.out.plus (by repeat' (first | exact Plus.refl _ | refine Plus.alloc ?_ _ | refine Plus.plus ?_ _ | refine Plus.drew ?_ | refine Plus.drewN ?_ _))) (by omega)).mono ?_; rintro e w1 ⟨rfl, ⟨x1, rfl⟩⟩; rw [hl.out]) | (go_at_call 95; refine (trim_n hT _ (by omega) (by decide) blank_asc).mono ?_; rintro e w1 ⟨rfl, ⟨x2, rfl⟩⟩) | (go_at_call 96; refine (HU.out _).mono ?_; rintro e w1 ⟨rfl, rfl⟩) | (go_at_call_of 97 (Value.string ⟨#[48, 49, 50, 51, 52, 53, 54, 55, 56, 57]⟩); refine (HH.out _).mono ?_; rintro e w1 ⟨rfl, ⟨x3, rfl⟩⟩) | (go_at_call 100; refine (HC.out _).mono ?_; rintro e w1 ⟨rfl, ⟨x6, rfl⟩⟩) | (go_at_call_of 97 (Value.string ⟨#[48, 49, 50, 51, 52, 53, 54, 55, 56, 57, 97, 98, 99, 100, 101, 102, 65, 66, 67, 68, 69, 70, 120, 88, 111, 79]⟩); refine (HK.out _).mono ?_; rintro e w1 ⟨rfl, ⟨x7, rfl⟩⟩))
  go_returns
  exact ⟨none, 0, rfl, Bg.arg_nil, (by repeat' (first | exact Plus.refl _ | refine Plus.alloc ?_ _ | refine Plus.plus ?_ _ | refine Plus.drew ?_ | refine Plus.drewN ?_ _))⟩
set_option maxRecDepth 100000 in
set_option maxHeartbeats 4000000 in
theorem bigof_ntt {A : Option Addr} {xs : List Nat} {n c : Nat} (w : World) (h : Hid (Ar .u16 65536 w A xs n c)) (hs : n ≤ 4096) (hl : Hid (low xs = true)) {T : List UInt8} (hT : Hid (Lib.trimS (plS xs).data.toList (⟨#[32, 9, 10, 13]⟩ : ByteArray).data.toList = T)) (hz : (plS xs).size ≤ 1048576) (hne : Hid (T ≠ [])) {Z : List UInt8} (hZ : Hid (unsT T = Z)) {b : Bool} (hb : Hid (Lib.hasPrefix T [45] = b)) (hzl : Z.length ≤ 1000000) (hzn : Hid (Z ≠ [])) (hd : Hid (decide (Lib.trimS Z digS = []) = false)) (htl : T.length ≤ 1048576) (hta : asc T) (h1 : Hid (Lib.containsAny T digS = true)) (h2 : Hid (decide (Lib.trimS T pfxS = []) = true)) : Calls Tryz.prog 56 #[.slice A n c] w (BgP false [] 3 w) := by
  have hu := cunsigned_c T
  rw [hZ.out, hb.out] at hu
  have HU := Lib.hid hu
  clear hu
  have hca : ∀ w : World, Calls Tryz.prog 100 #[.string (str T), .string ⟨#[48, 49, 50, 51, 52, 53, 54, 55, 56, 57]⟩] w fun e w' => e = .returned (.bool true) ∧ Plus w w' := fun w => by
    have q := containsAny_c (str T) (str digS) w (by rw [str_size]; omega) (by decide) (asc_get hta) (asc_get dig_asc)
    rw [str_data, str_data, h1.out] at q
    exact q
  have HC := Lib.hid hca
  have hkk : ∀ w : World, Calls Tryz.prog 97 #[.string (str T), .string ⟨#[48, 49, 50, 51, 52, 53, 54, 55, 56, 57, 97, 98, 99, 100, 101, 102, 65, 66, 67, 68, 69, 70, 120, 88, 111, 79]⟩] w fun e w' => e = .returned (.bool true) ∧ Plus w w' := fun w => chasOnly_c T pfxS w (by omega) (by decide) pfx_asc true h2
  have HK := Lib.hid hkk
  obtain ⟨t1, t2, t3⟩ := str_ne hne.out
  clear hca hkk
  obtain ⟨z1, z2, z3⟩ := str_ne hzn.out
  have hho : ∀ w : World, Calls Tryz.prog 97 #[.string (str Z), .string ⟨#[48, 49, 50, 51, 52, 53, 54, 55, 56, 57]⟩] w fun e w' => e = .returned (.bool false) ∧ Plus w w' := fun w => chasOnly_c Z digS w (by omega) (by decide) dig_asc false hd
  have HH := Lib.hid hho
  clear hho
  go_enter Tryz.func56, Tryz.ntmps56
  go_wp2_with (first | (go_at_call 94; refine (plain_c _ _ _ _ _ (h.out.plus (by repeat' (first | exact Plus.refl _ | refine Plus.alloc ?_ _ | refine Plus.plus ?_ _ | refine Plus.drew ?_ | refine Plus.drewN ?_ _))) (by omega)).mono ?_; rintro e w1 ⟨rfl, ⟨x1, rfl⟩⟩; rw [hl.out]) | (go_at_call 95; refine (trim_n hT _ (by omega) (by decide) blank_asc).mono ?_; rintro e w1 ⟨rfl, ⟨x2, rfl⟩⟩) | (go_at_call 96; refine (HU.out _).mono ?_; rintro e w1 ⟨rfl, rfl⟩) | (go_at_call_of 97 (Value.string ⟨#[48, 49, 50, 51, 52, 53, 54, 55, 56, 57]⟩); refine (HH.out _).mono ?_; rintro e w1 ⟨rfl, ⟨x3, rfl⟩⟩) | (go_at_call 100; refine (HC.out _).mono ?_; rintro e w1 ⟨rfl, ⟨x6, rfl⟩⟩) | (go_at_call_of 97 (Value.string ⟨#[48, 49, 50, 51, 52, 53, 54, 55, 56, 57, 97, 98, 99, 100, 101, 102, 65, 66, 67, 68, 69, 70, 120, 88, 111, 79]⟩); refine (HK.out _).mono ?_; rintro e w1 ⟨rfl, ⟨x7, rfl⟩⟩))
  go_returns
  exact ⟨none, 0, rfl, Bg.arg_nil, (by repeat' (first | exact Plus.refl _ | refine Plus.alloc ?_ _ | refine Plus.plus ?_ _ | refine Plus.drew ?_ | refine Plus.drewN ?_ _))⟩
end Go.Proofs.YtmlfcmmgoiigkaaGreatDoor
