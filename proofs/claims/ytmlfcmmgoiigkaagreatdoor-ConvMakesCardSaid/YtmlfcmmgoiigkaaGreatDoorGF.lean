/- Contract: Parse. The contracts with names for what they return. -/
import Derived.Deep.OwnRows
import Derived.Test.YtmlfcmmgoiigkaaGreatDoorGC23
import Derived.Test.YtmlfcmmgoiigkaaGreatDoorGE
import Derived.Test.YtmlfcmmgoiigkaaGreatDoorH
import Derived.Test.YtmlfcmmgoiigkaaGreatDoorGD
namespace Go.Proofs.YtmlfcmmgoiigkaaGreatDoor.Bg
open Go.RowKit


theorem num_take {l : List UInt8} {k : Nat} (h : k < l.length) : num (l.take (k + 1)) = 10 * num (l.take k) + (l[k].toNat - 48) := by
  rw [List.take_succ_eq_append_getElem h, num_snoc]
theorem num_take_le (l : List UInt8) (k : Nat) : num (l.take k) ≤ num l := by
  have h := num_ge (l.take k) (l.drop k)
  rw [List.take_append_drop] at h
  exact h
theorem isD_of {l : List UInt8} (h : l.all isD = true) {k : Nat} (hk : k < l.length) : 48 ≤ l[k].toNat ∧ l[k].toNat ≤ 57 := by
  have := List.all_eq_true.1 h _ (List.getElem_mem hk)
  simpa [isD] using this
theorem cnt_digits {l : List UInt8} (h : isCnt l = true) : l.all isD = true := by
  unfold isCnt at h
  simp only [Bool.and_eq_true] at h
  exact h.2
def ParRel (ds : List UInt8) (g : Nat) (w : World) (s27 : Value) (wr : World) : Prop :=
  ∃ (k : Nat) (os : List Nat), k ≤ ds.length ∧ s27 = .int .i64 k ∧ Own wr g os ∧ os.length = 8 ∧ val os = num (ds.take k) ∧ Below (w.heap.size + 1) (w.alloc (.cells #[.bool false, .slice none 0 0] 26)) wr

set_option maxRecDepth 100000 in
set_option maxHeartbeats 8000000 in
theorem parse_h (s D : ByteArray) (neg : Bool) (w : World) (hD : Hid (Lib.hasPrefix s.data.toList [45] = neg ∧ (Lib.trimPrefix s.data.toList [45]) = D.data.toList)) (hDs : D.size ≤ 9223372036854775807)
    (hcnt : Hid (isCnt D.data.toList = true)) (hz : Hid (neg = true → (D.toList == [48]) = false)) (R er : Int) (hlong : Hid (B ^ 8 ≤ num D.data.toList → R = 0 ∧ er = 3)) (hok : Hid (num D.data.toList < B ^ 8 → R = sgn neg (num D.data.toList) ∧ er = 0)) :
    Calls Tryz.prog 149 #[.string s] w (RetBigX R er w) := by
  have hmk : ∀ w, (Instr.makeSlice 24 (.int .i64 8) (.int .i64 8)).run Tryz.prog w = .ok (.slice (some ⟨w.heap.size, 0, none⟩) 8 8) (w.alloc (.cells #[.int .u32 0, .int .u32 0, .int .u32 0, .int .u32 0, .int .u32 0, .int .u32 0, .int .u32 0, .int .u32 0] 74)) := fun _ => by kernel_rfl
  have hcp : ∀ w : World, Calls Tryz.prog 146 #[.string s, .string ⟨#[45]⟩] w fun e w' => e = .returned (.tuple #[.string D, .bool neg]) ∧ w = w' := fun w => by
    refine (Tryz.strings_CutPrefix s ⟨#[45]⟩ w).mono ?_
    rintro e w1 ⟨rfl, rfl⟩
    have e1 : (⟨#[45]⟩ : ByteArray).data.toList = [45] := rfl
    rw [e1, hD.out.1, hD.out.2]
    exact ⟨rfl, rfl⟩
  have HCP := Lib.hid hcp
  clear hcp
  cases neg
  all_goals
    first | have h48 := hz.out rfl | skip
    go_enter Tryz.func149, Tryz.ntmps149
    go_wp2_with (first | (go_at_call 146; (with_reducible refine (HCP.out _).mono ?_); rintro e w1 ⟨rfl, rfl⟩) | (go_at_call 170; (with_reducible refine (isCount_c D _ hDs).mono ?_); rintro e w1 ⟨rfl, rfl⟩; rw [hcnt.out]))
    clear hmk
    first | clear h48 | skip
    have HST : Hid (Own ((w.alloc (.cells #[.bool false, .slice none 0 0] 26)).alloc (.cells #[.int .u32 0, .int .u32 0, .int .u32 0, .int .u32 0, .int .u32 0, .int .u32 0, .int .u32 0, .int .u32 0] 74)) (w.heap.size + 1) (List.replicate 8 0)) := Lib.hid (Own.zeros' _ _ 8 74 _ rfl (by rw [World.size_alloc]))
    go_loopw [27] (ParRel D.data.toList (w.heap.size + 1) w) (fun s27 _ => ((D.size : Int) - intOf s27).toNat)
    case atStart => exact ⟨0, _, by omega, rfl, HST.out, by simp, by rw [val_zeros]; rfl, (Below.refl _ _).alloc (by rw [World.size_alloc]; omega) _⟩
    case round =>
      obtain ⟨k, os, hk, rfl, hO, hol, hov, hB⟩ := hrel
      have hkD : k ≤ D.size := by simpa using hk
      obtain ⟨x, rfl⟩ := Plus.of_below (w := w.alloc (.cells #[.bool false, .slice none 0 0] 26)) (by rw [World.size_alloc]; exact hB)
      have HO := Lib.hid hO
      have HOL := Lib.hid hol
      have HOV := Lib.hid hov
      have HBB := Lib.hid hB
      clear hO hol hov hB
      by_cases hlt : k < D.size
      · have hkl : k < D.data.toList.length := by simpa using hlt
        obtain ⟨c1, c2⟩ := isD_of (cnt_digits hcnt.out) hkl
        have HNT := Lib.hid (num_take hkl)
        have hx : D.data.toList[k] = D[k] := rfl
        rw [hx] at c1 c2
        have HX := Lib.hid hx
        clear hx
        have c1' : (48 : Int) ≤ (D[k].toNat : Int) := by omega
        have c2' : (D[k].toNat : Int) ≤ 57 := by omega
        go_wp2_with fail
        refine (grow_i (w.heap.size + 1) os 8 8 10 (D[k].toNat - 48) _ _ _ HO.out HOL.out.symm rfl (by omega) (by decide) (by have := B_eq; omega) (by have := HOL.out; omega)).mono ?_
        rintro e w1 ⟨os2, cy, rfl, hO2, hv2, hl2, hc2, hg2⟩
        have hB2 := HBB.out.grown hg2 (by rw [size_plus, World.size_alloc]; omega) (fun j e => by injection e with e; omega)
        obtain ⟨x2, rfl⟩ := Plus.of_below (w := w.alloc (.cells #[.bool false, .slice none 0 0] 26)) (by rw [World.size_alloc]; exact hB2)
        have hv3 : val os2 + B ^ 8 * cy = num (D.data.toList.take (k + 1)) := by
          rw [HOL.out, HOV.out] at hv2
          rw [HNT.out, HX.out, hv2, Nat.mul_comm 10]
        have HO2 := Lib.hid hO2
        have HL2 : Hid (os2.length = 8) := Lib.hid (by rw [hl2, HOL.out])
        have HB2 := Lib.hid hB2
        clear hO2 hl2 hg2 hB2 hv2 hc2
        by_cases hcy : cy = 0
        · have HV3 : Hid (val os2 = num (D.data.toList.take (k + 1))) := Lib.hid (by rw [← hv3, hcy]; simp)
          have hb0 : ((cy : Int) != 0) = false := by simp [hcy]
          clear hv3 hcy
          go_wp2_with fail
          go_roundw
          case rel => exact ⟨k + 1, os2, hkl, by rw [show ((k + 1 : Nat) : Int) = (k : Int) + 1 by omega], HO2.out, HL2.out, HV3.out, HB2.out⟩
          case measure => simp [intOf]; omega
        · have hlong2 : B ^ 8 ≤ num D.data.toList := by
            have h1 := num_take_le D.data.toList (k + 1)
            have h2 : B ^ 8 ≤ B ^ 8 * cy := Nat.le_mul_of_pos_right _ (by omega)
            omega
          obtain ⟨hR0, hE0⟩ := hlong.out hlong2
          have HR0 := Lib.hid hR0
          have HE0 := Lib.hid hE0
          have hb0 : ((cy : Int) != 0) = true := by simp [hcy]
          clear hv3 hcy hlong2 hR0 hE0
          go_wp2_with fail
          go_returns
          rw [HR0.out, HE0.out]
          exact RetBigX.zero (by repeat' (first | exact Plus.refl _ | refine Plus.alloc ?_ _ | refine Plus.plus ?_ _ | refine Plus.drew ?_ | refine Plus.drewN ?_ _))
      · obtain rfl : k = D.size := by omega
        have hfull : num (D.data.toList.take D.size) = num D.data.toList := by rw [List.take_of_length_le (by simp)]
        have hlt8 : num D.data.toList < B ^ 8 := by
          rw [← hfull, ← HOV.out, ← HOL.out]
          exact val_lt HO.out.1
        obtain ⟨hR0, hE0⟩ := hok.out hlt8
        have HR0 := Lib.hid hR0
        have HE0 := Lib.hid hE0
        have HV : Hid (val os = num D.data.toList) := Lib.hid (by rw [HOV.out, hfull])
        clear hfull hlt8 hR0 hE0
        go_wp2_with fail
        refine (made_c _ _ os _ _ _ HO.out.toLim HOL.out.symm (by rw [HOL.out]; exact Nat.le_refl _) (by omega)).mono ?_
        rintro e w3 ⟨A3, c3, rfl, r1, r2, r3, ⟨x5, rfl⟩⟩
        rw [HV.out, ← HR0.out] at r1 r3 ⊢
        have R1 := Lib.hid r1
        have R3 := Lib.hid r3
        clear r1 r3
        go_wp2_with fail
        go_returns
        rw [HE0.out]
        refine ⟨A3, c3, rfl, R1.out, r2, R3.out.res2, ?_⟩
        repeat' (first | exact Plus.refl _ | refine Plus.alloc ?_ _ | refine Plus.plus ?_ _ | refine Plus.drew ?_ | refine Plus.drewN ?_ _)

set_option maxRecDepth 100000 in
set_option maxHeartbeats 8000000 in
theorem parse_no (s D : ByteArray) (neg : Bool) (w : World) (hD : Hid (Lib.hasPrefix s.data.toList [45] = neg ∧ (Lib.trimPrefix s.data.toList [45]) = D.data.toList)) (hDs : D.size ≤ 9223372036854775807)
    (hbad : isCnt D.data.toList = false ∨ isCnt D.data.toList = true ∧ neg = true ∧ (D.toList == [48]) = true) :
    Calls Tryz.prog 149 #[.string s] w (RetBigX 0 2 w) := by
  have hcp : ∀ w : World, Calls Tryz.prog 146 #[.string s, .string ⟨#[45]⟩] w fun e w' => e = .returned (.tuple #[.string D, .bool neg]) ∧ w = w' := fun w => by
    refine (Tryz.strings_CutPrefix s ⟨#[45]⟩ w).mono ?_
    rintro e w1 ⟨rfl, rfl⟩
    have e1 : (⟨#[45]⟩ : ByteArray).data.toList = [45] := rfl
    rw [e1, hD.out.1, hD.out.2]
    exact ⟨rfl, rfl⟩
  have HCP := Lib.hid hcp
  clear hcp
  rcases hbad with hc | ⟨hc, rfl, h48⟩
  all_goals
    have HC := Lib.hid hc
    clear hc
    go_enter Tryz.func149, Tryz.ntmps149
    go_wp2_with (first | (go_at_call 146; (with_reducible refine (HCP.out _).mono ?_); rintro e w1 ⟨rfl, rfl⟩) | (go_at_call 170; (with_reducible refine (isCount_c D _ hDs).mono ?_); rintro e w1 ⟨rfl, rfl⟩; rw [HC.out]))
    go_returns
    exact RetBigX.zero (by repeat' (first | exact Plus.refl _ | refine Plus.alloc ?_ _ | refine Plus.plus ?_ _ | refine Plus.drew ?_ | refine Plus.drewN ?_ _))

/-- The integer that a text is read as, and the error. -/
def parI (l : List UInt8) : Int := match rd l with | .is n => n | _ => 0
def parE (l : List UInt8) : Int := match rd l with | .form => 2 | .long => 3 | .is _ => 0
theorem parse_c (s : ByteArray) (w : World) (hs : s.size ≤ 9223372036854775807) :
    Calls Tryz.prog 149 #[.string s] w (RetBigX (parI s.data.toList) (parE s.data.toList) w) := by
  obtain ⟨neg, hneg⟩ : ∃ b, Lib.hasPrefix s.data.toList [45] = b := ⟨_, rfl⟩
  obtain ⟨d, hd⟩ : ∃ d, Lib.trimPrefix s.data.toList [45] = d := ⟨_, rfl⟩
  have hdl : d.length ≤ s.data.toList.length := by
    rw [← hd]
    unfold Lib.trimPrefix
    split
    · rw [List.length_drop]; omega
    · exact Nat.le_refl _
  have hrd : rd s.data.toList = if isCnt d = false ∨ (neg = true ∧ d = [48]) then .form else if B ^ 8 ≤ num d then .long else .is (sgn neg (num d)) := by
    have e1 : (s.data.toList.head? == some 45) = neg := by
      rw [← hneg]
      unfold Lib.hasPrefix
      cases s.data.toList with
      | nil => rfl
      | cons c l => simp only [List.head?_cons, List.isPrefixOf, Bool.and_true]; rw [Bool.eq_iff_iff]; simp; exact eq_comm
    have e2 : (if neg then s.data.toList.tail else s.data.toList) = d := by
      rw [← hd]
      unfold Lib.trimPrefix
      rw [hneg]
      cases neg
      · rfl
      · simp
    unfold rd
    simp only [e1, e2]
    rfl
  have hD : Hid (Lib.hasPrefix s.data.toList [45] = neg ∧ Lib.trimPrefix s.data.toList [45] = (⟨d.toArray⟩ : ByteArray).data.toList) := Lib.hid ⟨hneg, by rw [hd]⟩
  have hDs : (⟨d.toArray⟩ : ByteArray).size ≤ 9223372036854775807 := by
    have : (⟨d.toArray⟩ : ByteArray).size = d.length := by show d.toArray.size = _; simp
    have h2 : s.data.toList.length = s.size := by simp
    omega
  have etl : (⟨d.toArray⟩ : ByteArray).toList = d := toList_data _
  have edl : (⟨d.toArray⟩ : ByteArray).data.toList = d := rfl
  by_cases hbad : isCnt d = false ∨ (neg = true ∧ d = [48])
  · have e1 : parI s.data.toList = 0 := by unfold parI; rw [hrd, if_pos hbad]
    have e2 : parE s.data.toList = 2 := by unfold parE; rw [hrd, if_pos hbad]
    rw [e1, e2]
    refine parse_no s ⟨d.toArray⟩ neg w hD hDs ?_
    rw [edl, etl]
    cases hc : isCnt d
    · exact .inl rfl
    · rcases hbad with h | ⟨h1, h2⟩
      · rw [hc] at h; cases h
      · exact .inr ⟨rfl, h1, by rw [h2]; rfl⟩
  · refine parse_h s ⟨d.toArray⟩ neg w hD hDs (Lib.hid ?_) (Lib.hid ?_) _ _ (Lib.hid ?_) (Lib.hid ?_)
    · rw [edl]
      cases hc : isCnt d
      · exact absurd (.inl hc) hbad
      · rfl
    · rw [etl]
      intro hn
      cases hq : (d == [48])
      · rfl
      · exact absurd (.inr ⟨hn, by simpa using hq⟩) hbad
    · rw [edl]
      intro h
      unfold parI parE
      rw [hrd, if_neg hbad, if_pos h]
      exact ⟨rfl, rfl⟩
    · rw [edl]
      intro h
      unfold parI parE
      rw [hrd, if_neg hbad, if_neg (by omega)]
      exact ⟨rfl, rfl⟩
end Go.Proofs.YtmlfcmmgoiigkaaGreatDoor.Bg

namespace Go.Proofs.YtmlfcmmgoiigkaaGreatDoor.Bg
open Go.RowKit
/-- A number that is returned is an argument again. -/
theorem arg_of {w : World} {A : Option Addr} {n : Int} {c : Nat} (hab : n.natAbs < B ^ 8) (h1 : (dig n.natAbs).length ≤ c) (h2 : c ≤ 9223372036854775807) (h3 : Lim w A (dig n.natAbs)) : Arg w A (dig n.natAbs) (dig n.natAbs).length c :=
  ⟨h3, rfl, by have := dig_len_le hab; omega, h1, h2⟩



/-- A number that is short enough: its sign, its limbs. -/
structure Nm (n : Int) (pb : Bool) (us : List Nat) : Prop where
  neg : decide (n < 0) = pb
  mag : dig n.natAbs = us
  abs : n.natAbs < B ^ 8
theorem Nm.val {n : Int} {pb : Bool} {us : List Nat} (h : Nm n pb us) : bigI pb us = n := by
  obtain ⟨rfl, rfl, h3⟩ := h
  exact bigI_dig h3
theorem Nm.mk' {n : Int} (h : n.natAbs < B ^ 8) : Nm n (decide (n < 0)) (dig n.natAbs) := ⟨rfl, rfl, h⟩
theorem Nm.arg {n : Int} {pb : Bool} {us : List Nat} (h : Nm n pb us) {w : World} {A : Option Addr} {c : Nat} (h1 : (dig n.natAbs).length ≤ c) (h2 : c ≤ 9223372036854775807) (h3 : Lim w A (dig n.natAbs)) : Arg w A us us.length c := by
  obtain ⟨rfl, rfl, h4⟩ := h
  exact arg_of h4 h1 h2 h3
def OfN (z r : Int) (pb : Bool) (us : List Nat) : Prop := Nm r pb us ∧ z = r ∧ -9223372036854775808 ≤ r ∧ r ≤ 9223372036854775807
def FwN (z r : Int) (s : Bool) (pb : Bool) (us : List Nat) : Prop := Nm r pb us ∧ ∃ v : Nat, z = v ∧ v < B * B ∧ r = if s = true ∧ 9223372036854775808 ≤ v then (v : Int) - 18446744073709551616 else v
def NegN (a r : Int) (pb : Bool) (us : List Nat) : Prop := Nm r pb us ∧ -a = r
def AddN (a b r : Int) (ok : Bool) (pb : Bool) (us : List Nat) : Prop := Nm r pb us ∧ ok = decide ((a + b).natAbs < B ^ 8) ∧ r = if (a + b).natAbs < B ^ 8 then a + b else 0
def MulN (a b r : Int) (ok : Bool) (pb : Bool) (us : List Nat) : Prop := Nm r pb us ∧ ok = decide ((a * b).natAbs < B ^ 8) ∧ r = if (a * b).natAbs < B ^ 8 then a * b else 0
def DivN (a b r er : Int) (pb : Bool) (us : List Nat) : Prop := Nm r pb us ∧ er = (if b.natAbs = 0 then 4 else 0) ∧ r = if b.natAbs = 0 then 0 else a.tdiv b
def RemN (a b r er : Int) (pb : Bool) (us : List Nat) : Prop := Nm r pb us ∧ er = (if b.natAbs = 0 then 4 else 0) ∧ r = if b.natAbs = 0 then 0 else a.tmod b
def AsUN (z a r er : Int) (pb : Bool) (us : List Nat) : Prop := Nm r pb us ∧ ((0 ≤ z ∧ z ≤ 256 ∧ r = a % 2 ^ z.toNat ∧ er = 0) ∨ ((z < 0 ∨ 256 < z) ∧ r = 0 ∧ er = 1))
def ParN (r er : Int) (s : ByteArray) (pb : Bool) (us : List Nat) : Prop := Nm r pb us ∧ parI s.data.toList = r ∧ parE s.data.toList = er ∧ s.size ≤ 9223372036854775807
section
variable {pb : Bool} {us : List Nat} {r : Int}
theorem RetBig.n (hr : Nm r pb us) {w w' : World} {e : Ending} (h : RetBig r w e w') : ∃ (A1 : Option Addr) (c1 : Nat), e = .returned (.agg #[.bool pb, .slice A1 us.length c1]) ∧ Arg w' A1 us us.length c1 ∧ Plus w w' := by
  obtain ⟨A1, c1, rfl, q1, q2, q3, q4⟩ := h
  have ha := hr.arg q1 q2 q3
  obtain ⟨rfl, rfl, _⟩ := hr
  exact ⟨A1, c1, rfl, ha, q4⟩
theorem RetBigX.n (hr : Nm r pb us) {er : Int} {w w' : World} {e : Ending} (h : RetBigX r er w e w') : ∃ (A1 : Option Addr) (c1 : Nat), e = .returned (.tuple #[.agg #[.bool pb, .slice A1 us.length c1], .int .i64 er]) ∧ Arg w' A1 us us.length c1 ∧ Plus w w' := by
  obtain ⟨A1, c1, rfl, q1, q2, q3, q4⟩ := h
  have ha := hr.arg q1 q2 q3
  obtain ⟨rfl, rfl, _⟩ := hr
  exact ⟨A1, c1, rfl, ha, q4⟩
theorem RetBigOk.n {s : Int} {ok : Bool} (hok : ok = decide (s.natAbs < B ^ 8)) (hs : r = if s.natAbs < B ^ 8 then s else 0) (hr : Nm r pb us) {w w' : World} {e : Ending} (h : RetBigOk s w e w') : ∃ (A1 : Option Addr) (c1 : Nat), e = .returned (.tuple #[.agg #[.bool pb, .slice A1 us.length c1], .bool ok]) ∧ Arg w' A1 us us.length c1 ∧ Plus w w' := by
  obtain ⟨A1, c1, m, o, rfl, p1, p2, q1, q2, q3, q4⟩ := h
  rw [← hs] at p2
  rw [← hok] at p1
  subst p1 p2
  have ha := hr.arg q1 q2 q3
  obtain ⟨rfl, rfl, _⟩ := hr
  exact ⟨A1, c1, rfl, ha, q4⟩
theorem of_n {z : Int} (hr : Hid (OfN z r pb us)) (w : World) : Calls Tryz.prog 55 #[.int .i64 z] w fun e w' => ∃ (A1 : Option Addr) (c1 : Nat), e = .returned (.agg #[.bool pb, .slice A1 us.length c1]) ∧ Arg w' A1 us us.length c1 ∧ Plus w w' := by
  obtain ⟨h1, rfl, h2, h3⟩ := hr.out
  exact (of_c z h2 h3 w).mono fun _ _ h => h.n h1
theorem neg_n {an : Bool} {A : Option Addr} {xs : List Nat} {n c : Nat} {a : Int} (hA : Hid (bigI an xs = a)) (hr : Hid (NegN a r pb us)) (w : World) (ha : Arg w A xs n c) : Calls Tryz.prog 99 #[.agg #[.bool an, .slice A n c]] w fun e w' => ∃ (A1 : Option Addr) (c1 : Nat), e = .returned (.agg #[.bool pb, .slice A1 us.length c1]) ∧ Arg w' A1 us us.length c1 ∧ Plus w w' := by
  obtain ⟨h1, rfl⟩ := hr.out
  have h := neg_c (an := an) w ha
  rw [hA.out] at h
  exact h.mono fun _ _ h => h.n h1
theorem same_n {an bn : Bool} {A C : Option Addr} {xs ys : List Nat} {n c m d : Nat} {a b : Int} (hA : Hid (bigI an xs = a)) (hB : Hid (bigI bn ys = b)) {v : Bool} (hr : Hid (decide (a = b) = v)) (w : World) (ha : Arg w A xs n c) (hb : Arg w C ys m d) : Calls Tryz.prog 71 #[.agg #[.bool an, .slice A n c], .agg #[.bool bn, .slice C m d]] w fun e w' => e = .returned (.bool v) ∧ Plus w w' := by
  have h := same_c (an := an) (bn := bn) w ha hb
  rw [hA.out, hB.out, hr.out] at h
  exact h
theorem cmp_n {an bn : Bool} {A C : Option Addr} {xs ys : List Nat} {n c m d : Nat} {a b : Int} (hA : Hid (bigI an xs = a)) (hB : Hid (bigI bn ys = b)) {v : Int} (hr : Hid (cmpZ a b = v)) (w : World) (ha : Arg w A xs n c) (hb : Arg w C ys m d) : Calls Tryz.prog 118 #[.agg #[.bool an, .slice A n c], .agg #[.bool bn, .slice C m d]] w fun e w' => e = .returned (.int .i64 v) ∧ Plus w w' := by
  have h := cmp_c (an := an) (bn := bn) w ha hb
  rw [hA.out, hB.out, hr.out] at h
  exact h
theorem text_n {an : Bool} {A : Option Addr} {xs : List Nat} {n c : Nat} {a : Int} (hA : Hid (bigI an xs = a)) {T : ByteArray} (hr : Hid ((⟨(txt a).toArray⟩ : ByteArray) = T)) (w : World) (ha : Arg w A xs n c) : Calls Tryz.prog 63 #[.agg #[.bool an, .slice A n c]] w fun e w' => e = .returned (.string T) ∧ Plus w w' := by
  have h := text_c (an := an) w ha
  rw [hA.out, hr.out] at h
  exact h
theorem parse_n {s : ByteArray} {er : Int} (hr : Hid (ParN r er s pb us)) (w : World) : Calls Tryz.prog 149 #[.string s] w fun e w' => ∃ (A1 : Option Addr) (c1 : Nat), e = .returned (.tuple #[.agg #[.bool pb, .slice A1 us.length c1], .int .i64 er]) ∧ Arg w' A1 us us.length c1 ∧ Plus w w' := by
  obtain ⟨h1, rfl, rfl, h2⟩ := hr.out
  exact (parse_c s w h2).mono fun _ _ h => h.n h1
theorem may_n {an : Bool} {A : Option Addr} {xs : List Nat} {n c : Nat} {v : Bool} (hr : Hid (mayL an xs = v)) (w : World) (ha : Arg w A xs n c) : Calls Tryz.prog 81 #[.agg #[.bool an, .slice A n c]] w fun e w' => e = .returned (.bool v) ∧ Plus w w' := by
  have h := may_c an A xs n c w ha.lim ha.len (by have := ha.few; omega)
  rw [hr.out] at h
  exact h
end
end Go.Proofs.YtmlfcmmgoiigkaaGreatDoor.Bg
