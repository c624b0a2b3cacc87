/- A BigInt's text: ours and the document's agree. -/
import Derived.IntWalk
import Derived.Test.YtakahpbondaidaaGreatDoorZL
import Derived.Test.YtakahpbondaidaaGreatDoorZM
import Derived.Test.YtakahpbondaidaaGreatDoorZN
import Derived.Test.YtakahpbondaidaaGreatDoorZQb
import Derived.Test.YtakahpbondaidaaGreatDoorZR
import Derived.Test.YtakahpbondaidaaGreatDoorZU
namespace Go.Proofs.YtakahpbondaidaaGreatDoor
open Go.RowKit

def stripZ : List Nat → List Nat
  | x :: y :: r => if x = 48 then stripZ (y :: r) else x :: y :: r
  | l => l
theorem stripZ_at : ∀ {k : Nat} {d : List Nat}, k < d.length → (d.take k).all (· == 48) = true → (k + 1 = d.length ∨ d.getD k 0 ≠ 48) → stripZ d = d.drop k
  | 0, [], h, _, _ => absurd h (by simp)
  | 0, [x], _, _, _ => rfl
  | 0, x :: y :: r, _, _, h => by
    have hx : x ≠ 48 := by
      rcases h with h | h
      · simp at h
      · simpa using h
    show (if x = 48 then stripZ (y :: r) else x :: y :: r) = _
    rw [if_neg hx]
    rfl
  | k + 1, [], h, _, _ => absurd h (by simp)
  | k + 1, [x], h, _, _ => absurd h (by simp)
  | k + 1, x :: y :: r, h, ha, hx => by
    simp only [List.take_succ_cons, List.all_cons, Bool.and_eq_true, beq_iff_eq] at ha
    show (if x = 48 then stripZ (y :: r) else x :: y :: r) = _
    rw [if_pos ha.1, List.drop_succ_cons]
    refine stripZ_at (by simpa using h) ha.2 ?_
    rcases hx with h2 | h2
    · exact .inl (by simpa using h2)
    · exact .inr (by simpa using h2)
theorem stripZ_sub : ∀ d : List Nat, ∃ a, d = a ++ stripZ d
  | [] => ⟨[], rfl⟩
  | [x] => ⟨[], rfl⟩
  | x :: y :: r => by
    by_cases hx : x = 48
    · obtain ⟨a, h⟩ := stripZ_sub (y :: r)
      refine ⟨x :: a, ?_⟩
      show x :: y :: r = x :: a ++ (if x = 48 then stripZ (y :: r) else x :: y :: r)
      rw [if_pos hx, List.cons_append, ← h]
    · refine ⟨[], ?_⟩
      show x :: y :: r = [] ++ (if x = 48 then stripZ (y :: r) else x :: y :: r)
      rw [if_neg hx]
      rfl
theorem u8_48 {x : Nat} (h : dgB x = true) : ([48] : List UInt8).contains x.toUInt8 = decide (x = 48) := by
  have hx : x < 128 := by unfold dgB at h; simp at h; omega
  have : (List.range 128).all (fun x => ([48] : List UInt8).contains x.toUInt8 == decide (x = 48)) = true := by kernel_rfl
  have := List.all_eq_true.1 this x (List.mem_range.2 hx)
  simpa using this
/-- Noughts ahead: struck by both. -/
theorem strip_trim : ∀ {d : List Nat}, d.all dgB = true → d ≠ [] → (Lib.trimLeftS (d.map Nat.toUInt8) [48] = [] ∧ stripZ d = [48]) ∨ (Lib.trimLeftS (d.map Nat.toUInt8) [48] ≠ [] ∧ (stripZ d).map Nat.toUInt8 = Lib.trimLeftS (d.map Nat.toUInt8) [48])
  | [], _, h => absurd rfl h
  | [x], ha, _ => by
    simp only [List.all_cons, Bool.and_eq_true] at ha
    have hc := u8_48 ha.1
    by_cases hx : x = 48
    · left
      subst hx
      exact ⟨by decide, rfl⟩
    · right
      have : Lib.trimLeftS ([x].map Nat.toUInt8) [48] = [x.toUInt8] := by
        unfold Lib.trimLeftS
        simp only [List.map_cons, List.map_nil, List.dropWhile_cons, hc]
        simp [hx]
      rw [this]
      exact ⟨by simp, rfl⟩
  | x :: y :: r, ha, _ => by
    have ha' := ha
    simp only [List.all_cons, Bool.and_eq_true] at ha
    have hc := u8_48 ha.1
    by_cases hx : x = 48
    · have ih := strip_trim (d := y :: r) (by simp only [List.all_cons, Bool.and_eq_true]; exact ha.2) (by simp)
      have e1 : stripZ (x :: y :: r) = stripZ (y :: r) := by
        show (if x = 48 then stripZ (y :: r) else x :: y :: r) = _
        rw [if_pos hx]
      have e2 : Lib.trimLeftS ((x :: y :: r).map Nat.toUInt8) [48] = Lib.trimLeftS ((y :: r).map Nat.toUInt8) [48] := by
        unfold Lib.trimLeftS
        rw [List.map_cons, List.dropWhile_cons, if_pos (by rw [hc]; simp [hx])]
      rw [e1, e2]
      exact ih
    · right
      have e1 : stripZ (x :: y :: r) = x :: y :: r := by
        show (if x = 48 then stripZ (y :: r) else x :: y :: r) = _
        rw [if_neg hx]
      have e2 : Lib.trimLeftS ((x :: y :: r).map Nat.toUInt8) [48] = (x :: y :: r).map Nat.toUInt8 := by
        unfold Lib.trimLeftS
        rw [List.map_cons, List.dropWhile_cons, if_neg (by rw [hc]; simp [hx])]
      rw [e1, e2]
      exact ⟨by simp, rfl⟩
def dgV (neg : Bool) (d : List Nat) : G2 := if Bg.parE ((stripZ d).map Nat.toUInt8) = 0 then ⟨if neg then -(Bg.parI ((stripZ d).map Nat.toUInt8)) else Bg.parI ((stripZ d).map Nat.toUInt8), 0⟩ else ⟨0, 3⟩
/-- What the document makes of a text without blanks at its ends. -/
def dgG (t : List Nat) : G2 := if t = [] then ⟨0, 0⟩ else if dgs (dropS t) = true then dgV (sgB t) (dropS t) else if nxR t = true then ⟨0, 3⟩ else ⟨0, 5⟩
theorem set_pfx : (List.range 128).all (fun x => pfxS.contains x.toUInt8 == nxOk x) = true := by kernel_rfl
theorem pfx_eq {x : Nat} (h : x < 128) : pfxS.contains x.toUInt8 = nxOk x := by
  have := List.all_eq_true.1 set_pfx x (List.mem_range.2 h)
  simpa using this
theorem nxOk_low {x : Nat} (h : nxOk x = true) : x < 128 := by
  unfold nxOk nxJ numBase dgB otX at h
  simp at h
  omega
theorem all_pfx {t : List Nat} (hl : low t = true) : decide (Lib.trimS (t.map Nat.toUInt8) pfxS = []) = t.all nxOk := by
  have hm := low_mem hl
  rw [Bool.eq_iff_iff, decide_eq_true_iff, trim_nil_iff, List.all_eq_true]
  constructor
  · intro h x hx
    rw [← pfx_eq (hm x hx)]
    exact h _ (List.mem_map.2 ⟨x, hx, rfl⟩)
  · intro h y hy
    obtain ⟨x, hx, rfl⟩ := List.mem_map.1 hy
    rw [pfx_eq (hm x hx)]
    exact h x hx
theorem bg_around {b1 xs b2 : List Nat} (h1 : b1.all blankB = true) (h2 : b2.all blankB = true) : bgU (b1 ++ xs ++ b2) = bgU xs := by
  have e : low (b1 ++ xs ++ b2) = low xs := by
    have l1 := blank_low h1
    have l2 := blank_low h2
    unfold low at l1 l2 ⊢
    rw [List.all_append, List.all_append, l1, l2]
    simp
  unfold bgU
  rw [e, List.map_append, List.map_append, trim_around _ _ _ _ (blank_in h1) (blank_in h2)]
theorem bgD_dgV {d : List Nat} (ha : d.all dgB = true) (h0 : d ≠ []) (neg : Bool) : (⟨if neg = true then -(bgD (d.map Nat.toUInt8)).z else (bgD (d.map Nat.toUInt8)).z, (bgD (d.map Nat.toUInt8)).s⟩ : G2) = dgV neg d := by
  unfold bgD dgV
  rcases strip_trim ha h0 with ⟨h1, h2⟩ | ⟨h1, h2⟩
  · have hE : Bg.parE (List.map Nat.toUInt8 [48]) = 0 := by decide
    have hI : Bg.parI (List.map Nat.toUInt8 [48]) = 0 := by decide
    rw [if_pos h1, h2, if_pos hE, hI]
  · rw [if_neg h1, h2]
    by_cases hp : Bg.parE (Lib.trimLeftS (d.map Nat.toUInt8) [48]) = 0
    · rw [if_pos hp, if_pos hp]
    · rw [if_neg hp, if_neg hp]
      simp
theorem bg_mid {t : List Nat} (h : t ≠ [] → blankB (t.getD 0 0) = false ∧ blankB (t.getD (t.length - 1) 0) = false) : bgU t = dgG t := by
  by_cases h0 : t = []
  · subst h0
    rfl
  obtain ⟨h1, h2⟩ := h h0
  unfold bgU dgG
  rw [if_neg h0]
  have hd := drop_low h0
  cases hl : low t
  · rw [hl] at hd
    have n2 : dgs (dropS t) = false := by
      unfold dgs
      rw [Bool.and_eq_false_iff]
      left
      rw [Bool.eq_false_iff]
      intro q
      rw [dg_low q] at hd
      cases hd
    have n3 : nxR t = false := by
      unfold nxR
      rw [Bool.and_eq_false_iff]
      left
      rw [Bool.eq_false_iff]
      intro q
      rw [low_of (fun _ => nxOk_low) q] at hl
      cases hl
    rw [if_neg (by simp), n2, n3]
    rfl
  · rw [hl] at hd
    rw [if_pos rfl, trimS_low h1 h2 hl h0]
    obtain ⟨hu, hp⟩ := uns_drop hl h0
    unfold bgT
    rw [if_neg (by simpa using h0), hu, hp]
    cases c2 : dgs (dropS t)
    · have n2 : ¬ ((dropS t).map Nat.toUInt8 ≠ [] ∧ Lib.trimS ((dropS t).map Nat.toUInt8) digS = []) := by
        rintro ⟨q1, q2⟩
        rw [all_dig hd] at q2
        unfold dgs at c2
        rw [q2, Bool.true_and] at c2
        apply q1
        have : (dropS t).length = 0 := by simpa using c2
        rw [List.eq_nil_of_length_eq_zero this]
        rfl
      rw [if_neg n2, has_dig hl, all_pfx hl, Bool.and_comm, if_neg (show ¬ (false = true) by simp)]
      rfl
    · have c3 := c2
      unfold dgs at c3
      rw [Bool.and_eq_true] at c3
      have hne : dropS t ≠ [] := fun e => by
        have := c3.2
        rw [e] at this
        exact absurd this (by simp)
      rw [if_pos ⟨by simpa using hne, (all_dig hd).2 c3.1⟩, if_pos rfl]
      exact bgD_dgV c3.1 hne _
theorem bgU_mid {xs mid : List Nat} (h : TrimOf xs mid) : bgU xs = dgG mid := by
  obtain ⟨b1, b2, rfl, h1, h2, h3⟩ := h
  rw [bg_around h1 h2, bg_mid h3]
end Go.Proofs.YtakahpbondaidaaGreatDoor
namespace Go.Proofs.YtakahpbondaidaaGreatDoor
open Go.RowKit

theorem rPlain_n {A : Option Addr} {xs : List Nat} {n c : Nat} {S : ByteArray} (hS : Hid (plS xs = S ∧ low xs = true)) (w : World) (h : Ar .u16 65536 w A xs n c) (hs : n ≤ 1048576) : Calls Tryz.prog 113 #[.slice A n c] w fun e w' => e = .returned (.tuple #[.string S, .bool true]) ∧ Plus w w' := by
  have := rPlain_c A xs n c w h hs
  rw [hS.out.1, hS.out.2] at this
  exact this
theorem rparse9_n {s : ByteArray} {r er : Int} {pb : Bool} {us : List Nat} (hr : Hid (Bg.ParN r er s pb us)) (hs : Hid (s.size ≤ 5000)) (w : World) : Calls Tryz.prog 114 #[.string s] w fun e w' => ∃ (A1 : Option Addr) (c1 : Nat), e = .returned (.tuple #[.agg #[.bool pb, .slice A1 us.length c1], .int .i64 er]) ∧ Bg.Arg w' A1 us us.length c1 ∧ Plus w w' := Bg.rparse_n hr hs w
theorem rbneg9_n {an : Bool} {A : Option Addr} {xs : List Nat} {n c : Nat} {a r : Int} {pb : Bool} {us : List Nat} (hA : Hid (Bg.bigI an xs = a)) (hr : Hid (Bg.NegN a r pb us)) (w : World) (ha : Bg.Arg w A xs n c) : Calls Tryz.prog 89 #[.agg #[.bool an, .slice A n c]] w fun e w' => ∃ (A1 : Option Addr) (c1 : Nat), e = .returned (.agg #[.bool pb, .slice A1 us.length c1]) ∧ Bg.Arg w' A1 us us.length c1 ∧ Plus w w' := Bg.rneg_n hA hr w ha
def DzRel (d : List Nat) (s : Value) : Prop := ∃ k : Nat, k < d.length ∧ s = .int .i64 k ∧ (d.take k).all (· == 48) = true
/-- What parsing the stripped digits gives: the text, its BigInt, the errno. -/
structure DgF (d : List Nat) (S : ByteArray) (r er : Int) (pb : Bool) (us : List Nat) : Prop where
  pl : ∀ k : Nat, k < d.length → stripZ d = d.drop k → plS (d.drop k) = S ∧ low (d.drop k) = true
  par : Bg.ParN r er S pb us
  size : S.size ≤ 5000
theorem DgF.mk' {d : List Nat} (ha : d.all dgB = true) (hl : d.length ≤ 4096) : ∃ (S : ByteArray) (r er : Int) (pb : Bool) (us : List Nat), DgF d S r er pb us ∧ r = Bg.parI ((stripZ d).map Nat.toUInt8) ∧ er = Bg.parE ((stripZ d).map Nat.toUInt8) := by
  obtain ⟨a, e⟩ := stripZ_sub d
  have hz : (stripZ d).all dgB = true := by
    rw [e, List.all_append, Bool.and_eq_true] at ha
    exact ha.2
  have hlow := dg_low hz
  have hle : (stripZ d).length ≤ 4096 := by
    have := congrArg List.length e
    rw [List.length_append] at this
    omega
  have hd : (plS (stripZ d)).data.toList = (stripZ d).map Nat.toUInt8 := plS_low hlow
  have hs : (plS (stripZ d)).size = (stripZ d).length := by
    have e : (plS (stripZ d)).size = (plS (stripZ d)).data.toList.length := (Array.length_toList).symm
    rw [e, hd, List.length_map]
  exact ⟨plS (stripZ d), _, _, _, _, ⟨fun k hk h => by rw [← h]; exact ⟨rfl, hlow⟩, ⟨Bg.Nm.mk' (par_lt _), rfl, rfl, by rw [hs]; omega⟩, by rw [hs]; omega⟩, by rw [hd], by rw [hd]⟩
set_option maxRecDepth 100000 in
set_option maxHeartbeats 4000000 in
theorem digits_nil {A : Option Addr} {c : Nat} (w : World) : Calls Tryz.prog 54 #[.slice A 0 c] w (BgP false [] 0 w) := by
  go_enter Tryz.func54, Tryz.ntmps54
  go_wp2_with fail
  go_returns
  exact ⟨none, 0, rfl, Bg.arg_nil, (by repeat' (first | exact Plus.refl _ | refine Plus.alloc ?_ _ | refine Plus.plus ?_ _ | refine Plus.drew ?_ | refine Plus.drewN ?_ _))⟩
set_option maxRecDepth 100000 in
set_option maxHeartbeats 4000000 in
theorem digits_m1nt {g o : Nat} (w : World) (HT : Hid (Ar .u16 65536 w (some ⟨g, o, none⟩) [45] 1 1)) (_hn : 1 ≤ 4096) (HB2 : Hid (dgs [] = false)) (HB3 : Hid (nxR [45] = true)) : Calls Tryz.prog 54 #[.slice (some ⟨g, o, none⟩) 1 1] w (BgP false [] 3 w) := by
  obtain ⟨hrd, hlen, hcap, hmax, hbd⟩ := HT.out
  clear hlen
  obtain ⟨g2, o2, e2, hg, hat⟩ := hrd (by simp)
  injection e2 with e2
  injection e2 with e3 e4
  subst e3 e4
  have hcell := hat 0 (by simp)
  have hadd := add_addr g o 0
  simp only [Nat.add_zero, List.getD_cons_zero] at hcell hadd
  haveI : Old g w := ⟨hg⟩
  clear hrd hbd hat
  clear hcap hmax _hn
  have HDr : Hid (Ar .u16 65536 w (some ⟨g, o, none⟩) [] 0 0) := Lib.hid ⟨Rd.nil, rfl, by omega, by omega, fun x hx => by simp at hx⟩
  go_enter Tryz.func54, Tryz.ntmps54
  go_wp2_with (first | (go_at_call 99; (with_reducible refine (rDigits_n HB2 _ (HDr.out.plus (by repeat' (first | exact Plus.refl _ | refine Plus.alloc ?_ _ | refine Plus.plus ?_ _ | refine Plus.drew ?_ | refine Plus.drewN ?_ _)))).mono ?_); rintro e w1 ⟨rfl, rfl⟩) | (go_at_call 101; (with_reducible refine (rNumX_n HB3 _ (HT.out.plus (by repeat' (first | exact Plus.refl _ | refine Plus.alloc ?_ _ | refine Plus.plus ?_ _ | refine Plus.drew ?_ | refine Plus.drewN ?_ _)))).mono ?_); rintro e w1 ⟨rfl, rfl⟩))
  go_returns
  exact ⟨_, _, rfl, Bg.arg_nil, (by repeat' (first | exact Plus.refl _ | refine Plus.alloc ?_ _ | refine Plus.plus ?_ _ | refine Plus.drew ?_ | refine Plus.drewN ?_ _))⟩
set_option maxRecDepth 100000 in
set_option maxHeartbeats 4000000 in
theorem digits_m1nf {g o : Nat} (w : World) (HT : Hid (Ar .u16 65536 w (some ⟨g, o, none⟩) [45] 1 1)) (_hn : 1 ≤ 4096) (HB2 : Hid (dgs [] = false)) (HB3 : Hid (nxR [45] = false)) : Calls Tryz.prog 54 #[.slice (some ⟨g, o, none⟩) 1 1] w (BgP false [] 5 w) := by
  obtain ⟨hrd, hlen, hcap, hmax, hbd⟩ := HT.out
  clear hlen
  obtain ⟨g2, o2, e2, hg, hat⟩ := hrd (by simp)
  injection e2 with e2
  injection e2 with e3 e4
  subst e3 e4
  have hcell := hat 0 (by simp)
  have hadd := add_addr g o 0
  simp only [Nat.add_zero, List.getD_cons_zero] at hcell hadd
  haveI : Old g w := ⟨hg⟩
  clear hrd hbd hat
  clear hcap hmax _hn
  have HDr : Hid (Ar .u16 65536 w (some ⟨g, o, none⟩) [] 0 0) := Lib.hid ⟨Rd.nil, rfl, by omega, by omega, fun x hx => by simp at hx⟩
  go_enter Tryz.func54, Tryz.ntmps54
  go_wp2_with (first | (go_at_call 99; (with_reducible refine (rDigits_n HB2 _ (HDr.out.plus (by repeat' (first | exact Plus.refl _ | refine Plus.alloc ?_ _ | refine Plus.plus ?_ _ | refine Plus.drew ?_ | refine Plus.drewN ?_ _)))).mono ?_); rintro e w1 ⟨rfl, rfl⟩) | (go_at_call 101; (with_reducible refine (rNumX_n HB3 _ (HT.out.plus (by repeat' (first | exact Plus.refl _ | refine Plus.alloc ?_ _ | refine Plus.plus ?_ _ | refine Plus.drew ?_ | refine Plus.drewN ?_ _)))).mono ?_); rintro e w1 ⟨rfl, rfl⟩))
  go_returns
  exact ⟨_, _, rfl, Bg.arg_nil, (by repeat' (first | exact Plus.refl _ | refine Plus.alloc ?_ _ | refine Plus.plus ?_ _ | refine Plus.drew ?_ | refine Plus.drewN ?_ _))⟩
set_option maxRecDepth 100000 in
set_option maxHeartbeats 4000000 in
theorem digits_p1nt {g o : Nat} (w : World) (HT : Hid (Ar .u16 65536 w (some ⟨g, o, none⟩) [43] 1 1)) (_hn : 1 ≤ 4096) (HB2 : Hid (dgs [] = false)) (HB3 : Hid (nxR [43] = true)) : Calls Tryz.prog 54 #[.slice (some ⟨g, o, none⟩) 1 1] w (BgP false [] 3 w) := by
  obtain ⟨hrd, hlen, hcap, hmax, hbd⟩ := HT.out
  clear hlen
  obtain ⟨g2, o2, e2, hg, hat⟩ := hrd (by simp)
  injection e2 with e2
  injection e2 with e3 e4
  subst e3 e4
  have hcell := hat 0 (by simp)
  have hadd := add_addr g o 0
  simp only [Nat.add_zero, List.getD_cons_zero] at hcell hadd
  haveI : Old g w := ⟨hg⟩
  clear hrd hbd hat
  clear hcap hmax _hn
  have HDr : Hid (Ar .u16 65536 w (some ⟨g, o, none⟩) [] 0 0) := Lib.hid ⟨Rd.nil, rfl, by omega, by omega, fun x hx => by simp at hx⟩
  go_enter Tryz.func54, Tryz.ntmps54
  go_wp2_with (first | (go_at_call 99; (with_reducible refine (rDigits_n HB2 _ (HDr.out.plus (by repeat' (first | exact Plus.refl _ | refine Plus.alloc ?_ _ | refine Plus.plus ?_ _ | refine Plus.drew ?_ | refine Plus.drewN ?_ _)))).mono ?_); rintro e w1 ⟨rfl, rfl⟩) | (go_at_call 101; (with_reducible refine (rNumX_n HB3 _ (HT.out.plus (by repeat' (first | exact Plus.refl _ | refine Plus.alloc ?_ _ | refine Plus.plus ?_ _ | refine Plus.drew ?_ | refine Plus.drewN ?_ _)))).mono ?_); rintro e w1 ⟨rfl, rfl⟩))
  go_returns
  exact ⟨_, _, rfl, Bg.arg_nil, (by repeat' (first | exact Plus.refl _ | refine Plus.alloc ?_ _ | refine Plus.plus ?_ _ | refine Plus.drew ?_ | refine Plus.drewN ?_ _))⟩
set_option maxRecDepth 100000 in
set_option maxHeartbeats 4000000 in
theorem digits_p1nf {g o : Nat} (w : World) (HT : Hid (Ar .u16 65536 w (some ⟨g, o, none⟩) [43] 1 1)) (_hn : 1 ≤ 4096) (HB2 : Hid (dgs [] = false)) (HB3 : Hid (nxR [43] = false)) : Calls Tryz.prog 54 #[.slice (some ⟨g, o, none⟩) 1 1] w (BgP false [] 5 w) := by
  obtain ⟨hrd, hlen, hcap, hmax, hbd⟩ := HT.out
  clear hlen
  obtain ⟨g2, o2, e2, hg, hat⟩ := hrd (by simp)
  injection e2 with e2
  injection e2 with e3 e4
  subst e3 e4
  have hcell := hat 0 (by simp)
  have hadd := add_addr g o 0
  simp only [Nat.add_zero, List.getD_cons_zero] at hcell hadd
  haveI : Old g w := ⟨hg⟩
  clear hrd hbd hat
  clear hcap hmax _hn
  have HDr : Hid (Ar .u16 65536 w (some ⟨g, o, none⟩) [] 0 0) := Lib.hid ⟨Rd.nil, rfl, by omega, by omega, fun x hx => by simp at hx⟩
  go_enter Tryz.func54, Tryz.ntmps54
  go_wp2_with (first | (go_at_call 99; (with_reducible refine (rDigits_n HB2 _ (HDr.out.plus (by repeat' (first | exact Plus.refl _ | refine Plus.alloc ?_ _ | refine Plus.plus ?_ _ | refine Plus.drew ?_ | refine Plus.drewN ?_ _)))).mono ?_); rintro e w1 ⟨rfl, rfl⟩) | (go_at_call 101; (with_reducible refine (rNumX_n HB3 _ (HT.out.plus (by repeat' (first | exact Plus.refl _ | refine Plus.alloc ?_ _ | refine Plus.plus ?_ _ | refine Plus.drew ?_ | refine Plus.drewN ?_ _)))).mono ?_); rintro e w1 ⟨rfl, rfl⟩))
  go_returns
  exact ⟨_, _, rfl, Bg.arg_nil, (by repeat' (first | exact Plus.refl _ | refine Plus.alloc ?_ _ | refine Plus.plus ?_ _ | refine Plus.drew ?_ | refine Plus.drewN ?_ _))⟩
set_option maxRecDepth 100000 in
set_option maxHeartbeats 4000000 in
theorem digits_mnt {g o c : Nat} {r : List Nat} (w : World) (HT : Hid (Ar .u16 65536 w (some ⟨g, o, none⟩) (45 :: r) (r.length + 1) c)) (hc1 : ¬ c = 1) (hn : (r.length + 1) ≤ 4096) (HB2 : Hid (dgs r = false)) (HB3 : Hid (nxR (45 :: r) = true)) : Calls Tryz.prog 54 #[.slice (some ⟨g, o, none⟩) (r.length + 1) c] w (BgP false [] 3 w) := by
  obtain ⟨hrd, hlen, hcap, hmax, hbd⟩ := HT.out
  clear hlen
  obtain ⟨g2, o2, e2, hg, hat⟩ := hrd (by simp)
  injection e2 with e2
  injection e2 with e3 e4
  subst e3 e4
  have hcell := hat 0 (by simp)
  have hadd := add_addr g o 0
  simp only [Nat.add_zero, List.getD_cons_zero] at hcell hadd
  haveI : Old g w := ⟨hg⟩
  have hm0 : ((r.length + 1 : Nat) : Int) = (r.length : Int) + 1 := by omega
  have b0 : (((r.length : Int) + 1) == 0) = false := by simp; omega
  clear hrd hbd hat
  have HDr : Hid (Ar .u16 65536 w (some ⟨g, o + 1, none⟩) r r.length (c - 1)) := Lib.hid (by
    have e := ar_mid (a := 1) (j := r.length + 1) HT.out (by omega) (by omega)
    have e2 : ((45 :: r).drop 1).take (r.length + 1 - 1) = r := by simp
    rw [e2, show r.length + 1 - 1 = r.length by omega] at e
    exact e)
  go_enter Tryz.func54, Tryz.ntmps54
  go_wp2_with (first | (go_at_call 99; (with_reducible refine (rDigits_n HB2 _ (HDr.out.plus (by repeat' (first | exact Plus.refl _ | refine Plus.alloc ?_ _ | refine Plus.plus ?_ _ | refine Plus.drew ?_ | refine Plus.drewN ?_ _)))).mono ?_); rintro e w1 ⟨rfl, rfl⟩) | (go_at_call 101; (with_reducible refine (rNumX_n HB3 _ (HT.out.plus (by repeat' (first | exact Plus.refl _ | refine Plus.alloc ?_ _ | refine Plus.plus ?_ _ | refine Plus.drew ?_ | refine Plus.drewN ?_ _)))).mono ?_); rintro e w1 ⟨rfl, rfl⟩))
  go_returns
  exact ⟨_, _, rfl, Bg.arg_nil, (by repeat' (first | exact Plus.refl _ | refine Plus.alloc ?_ _ | refine Plus.plus ?_ _ | refine Plus.drew ?_ | refine Plus.drewN ?_ _))⟩
set_option maxRecDepth 100000 in
set_option maxHeartbeats 4000000 in
theorem digits_mnf {g o c : Nat} {r : List Nat} (w : World) (HT : Hid (Ar .u16 65536 w (some ⟨g, o, none⟩) (45 :: r) (r.length + 1) c)) (hc1 : ¬ c = 1) (hn : (r.length + 1) ≤ 4096) (HB2 : Hid (dgs r = false)) (HB3 : Hid (nxR (45 :: r) = false)) : Calls Tryz.prog 54 #[.slice (some ⟨g, o, none⟩) (r.length + 1) c] w (BgP false [] 5 w) := by
  obtain ⟨hrd, hlen, hcap, hmax, hbd⟩ := HT.out
  clear hlen
  obtain ⟨g2, o2, e2, hg, hat⟩ := hrd (by simp)
  injection e2 with e2
  injection e2 with e3 e4
  subst e3 e4
  have hcell := hat 0 (by simp)
  have hadd := add_addr g o 0
  simp only [Nat.add_zero, List.getD_cons_zero] at hcell hadd
  haveI : Old g w := ⟨hg⟩
  have hm0 : ((r.length + 1 : Nat) : Int) = (r.length : Int) + 1 := by omega
  have b0 : (((r.length : Int) + 1) == 0) = false := by simp; omega
  clear hrd hbd hat
  have HDr : Hid (Ar .u16 65536 w (some ⟨g, o + 1, none⟩) r r.length (c - 1)) := Lib.hid (by
    have e := ar_mid (a := 1) (j := r.length + 1) HT.out (by omega) (by omega)
    have e2 : ((45 :: r).drop 1).take (r.length + 1 - 1) = r := by simp
    rw [e2, show r.length + 1 - 1 = r.length by omega] at e
    exact e)
  go_enter Tryz.func54, Tryz.ntmps54
  go_wp2_with (first | (go_at_call 99; (with_reducible refine (rDigits_n HB2 _ (HDr.out.plus (by repeat' (first | exact Plus.refl _ | refine Plus.alloc ?_ _ | refine Plus.plus ?_ _ | refine Plus.drew ?_ | refine Plus.drewN ?_ _)))).mono ?_); rintro e w1 ⟨rfl, rfl⟩) | (go_at_call 101; (with_reducible refine (rNumX_n HB3 _ (HT.out.plus (by repeat' (first | exact Plus.refl _ | refine Plus.alloc ?_ _ | refine Plus.plus ?_ _ | refine Plus.drew ?_ | refine Plus.drewN ?_ _)))).mono ?_); rintro e w1 ⟨rfl, rfl⟩))
  go_returns
  exact ⟨_, _, rfl, Bg.arg_nil, (by repeat' (first | exact Plus.refl _ | refine Plus.alloc ?_ _ | refine Plus.plus ?_ _ | refine Plus.drew ?_ | refine Plus.drewN ?_ _))⟩
set_option maxRecDepth 100000 in
set_option maxHeartbeats 4000000 in
theorem digits_my {g o c : Nat} {r : List Nat} {S : ByteArray} {pb : Bool} {us : List Nat} {r0 r1 : Int} {pb1 : Bool} {us1 : List Nat} (w : World) (HT : Hid (Ar .u16 65536 w (some ⟨g, o, none⟩) (45 :: r) (r.length + 1) c)) (hc1 : ¬ c = 1) (hn : (r.length + 1) ≤ 4096) (HB2 : Hid (dgs r = true)) (HF : Hid (DgF r S r0 0 pb us)) (HI : Hid (Bg.bigI pb us = r0)) (HNG : Hid (Bg.NegN r0 r1 pb1 us1)) : Calls Tryz.prog 54 #[.slice (some ⟨g, o, none⟩) (r.length + 1) c] w (BgP pb1 us1 0 w) := by
  obtain ⟨hrd, hlen, hcap, hmax, hbd⟩ := HT.out
  clear hlen
  obtain ⟨g2, o2, e2, hg, hat⟩ := hrd (by simp)
  injection e2 with e2
  injection e2 with e3 e4
  subst e3 e4
  have hcell := hat 0 (by simp)
  have hadd := add_addr g o 0
  simp only [Nat.add_zero, List.getD_cons_zero] at hcell hadd
  haveI : Old g w := ⟨hg⟩
  have hm0 : ((r.length + 1 : Nat) : Int) = (r.length : Int) + 1 := by omega
  have b0 : (((r.length : Int) + 1) == 0) = false := by simp; omega
  clear hrd hbd hat
  have HDr : Hid (Ar .u16 65536 w (some ⟨g, o + 1, none⟩) r r.length (c - 1)) := Lib.hid (by
    have e := ar_mid (a := 1) (j := r.length + 1) HT.out (by omega) (by omega)
    have e2 : ((45 :: r).drop 1).take (r.length + 1 - 1) = r := by simp
    rw [e2, show r.length + 1 - 1 = r.length by omega] at e
    exact e)
  have HPA := Lib.hid HF.out.par
  have HSZ := Lib.hid HF.out.size
  have hkl : 0 < (r).length := by
      have q := HB2.out
      unfold dgs at q
      rw [Bool.and_eq_true] at q
      have q2 := q.2
      simp only [decide_eq_true_eq] at q2
      exact q2
  have hrdD := HDr.out.rd
  go_enter Tryz.func54, Tryz.ntmps54
  go_wp2_with (go_at_call 99; (with_reducible refine (rDigits_n HB2 _ (HDr.out.plus (by repeat' (first | exact Plus.refl _ | refine Plus.alloc ?_ _ | refine Plus.plus ?_ _ | refine Plus.drew ?_ | refine Plus.drewN ?_ _)))).mono ?_); rintro e w1 ⟨rfl, rfl⟩)
  go_loop [6] (DzRel r) (fun s => (((r).length : Int) - intOf s).toNat)
  case atStart => exact ⟨0, hkl, rfl, rfl⟩
  case round =>
    obtain ⟨k, hk, rfl, hall⟩ := hrel
    obtain ⟨g3, o3, e3, hg3, hat3⟩ := hrdD.at_ hk
    injection e3 with e3
    injection e3 with e4 e5
    subst e4 e5
    have hcell2 := hat3 k hk
    have hadd2 := add_addr g (o + 1) k
    have HZ : Hid ((k + 1 = (r).length ∨ (r).getD k 0 ≠ 48) → stripZ r = (r).drop k) := Lib.hid (fun h => stripZ_at hk hall h)
    have HALL := Lib.hid hall
    obtain ⟨u, hu⟩ : ∃ u, (r).getD k 0 = u := ⟨_, rfl⟩
    rw [hu] at hcell2
    have HU := Lib.hid hu
    clear hall hat3 hu
    have hkn : k < r.length := by simpa using hk
    by_cases hlast : k + 1 = r.length
    · have b1 : decide ((k : Int) < ((r.length : Int) - 1)) = false := by simp; omega
      have HPL := Lib.hid (HF.out.pl k hk (HZ.out (Or.inl hlast)))
      have HDk : Hid (Ar .u16 65536 w (some ⟨g, o + 1 + k, none⟩) ((r).drop k) (r.length - k) ((c - 1) - k)) := Lib.hid (by
        have e := ar_mid (a := k) (j := r.length) HDr.out (by omega) (Nat.le_refl _)
        rw [List.take_of_length_le (by first | exact Nat.le_of_eq List.length_drop | (rw [List.length_drop]; simp))] at e
        exact e)
      go_wp2_with (first | (go_at_call 113; (with_reducible refine (rPlain_n HPL _ (HDk.out.plus (by repeat' (first | exact Plus.refl _ | refine Plus.alloc ?_ _ | refine Plus.plus ?_ _ | refine Plus.drew ?_ | refine Plus.drewN ?_ _))) (by omega)).mono ?_); rintro e w1 ⟨rfl, ⟨x1, rfl⟩⟩) | (go_at_call 114; (with_reducible refine (rparse9_n HPA HSZ _).mono ?_); rintro e w1 ⟨A1, c1, rfl, hA, ⟨x2, rfl⟩⟩; have HA := Lib.hid hA; clear hA) | (go_at_call 89; (with_reducible refine (rbneg9_n HI HNG _ (arg_offp HA.out (by repeat (first | (refine Offp.of ?_; (repeat' (first | exact Offs.refl _ | refine Offs.plus ?_ _ | refine Offs.alloc ?_ _ | exact Offs.allocN (Offs.refl _) (nuV _ _ _ _ _ _ _ _ _ _ _ _) | refine Offs.allocN ?_ (nuV _ _ _ _ _ _ _ _ _ _ _ _) | refine Offs.allocN ?_ (nuB _ _ _ _ _) | refine Offs.allocN ?_ (nuN _ _ _) | refine Offs.drew ?_ | refine Offs.drewL ?_ | refine Offs.drewR ?_)); done) | refine Offp.plusR ?_ _ | refine Offp.allocR ?_ _ | refine Offp.drewR ?_)))).mono ?_); rintro e w1 ⟨A2, c2, rfl, hA2, ⟨x3, rfl⟩⟩; have HA2 := Lib.hid hA2; clear hA2))
      go_returns
      exact ⟨A2, c2, rfl, arg_offp HA2.out (by repeat (first | (refine Offp.of ?_; (repeat' (first | exact Offs.refl _ | refine Offs.plus ?_ _ | refine Offs.alloc ?_ _ | exact Offs.allocN (Offs.refl _) (nuV _ _ _ _ _ _ _ _ _ _ _ _) | refine Offs.allocN ?_ (nuV _ _ _ _ _ _ _ _ _ _ _ _) | refine Offs.allocN ?_ (nuB _ _ _ _ _) | refine Offs.allocN ?_ (nuN _ _ _) | refine Offs.drew ?_ | refine Offs.drewL ?_ | refine Offs.drewR ?_)); done) | refine Offp.plusR ?_ _ | refine Offp.allocR ?_ _ | refine Offp.drewR ?_)), (by repeat' (first | exact Plus.refl _ | refine Plus.alloc ?_ _ | refine Plus.plus ?_ _ | refine Plus.drew ?_ | refine Plus.drewN ?_ _))⟩
    · have b1 : decide ((k : Int) < ((r.length : Int) - 1)) = true := by simp; omega
      by_cases hu48 : u = 48
      · subst hu48
        go_wp2_with fail
        go_round
        case rel => exact ⟨k + 1, by first | omega | (simp; omega), by rw [show ((k + 1 : Nat) : Int) = (k : Int) + 1 by omega], all_take HALL.out hk (by rw [HU.out]; rfl)⟩
        case measure => simp [intOf]; omega
      · have b2 : ((u : Int) == 48) = false := by simp; omega
        have HPL := Lib.hid (HF.out.pl k hk (HZ.out (Or.inr (by rw [HU.out]; exact hu48))))
        have HDk : Hid (Ar .u16 65536 w (some ⟨g, o + 1 + k, none⟩) ((r).drop k) (r.length - k) ((c - 1) - k)) := Lib.hid (by
          have e := ar_mid (a := k) (j := r.length) HDr.out (by omega) (Nat.le_refl _)
          rw [List.take_of_length_le (by first | exact Nat.le_of_eq List.length_drop | (rw [List.length_drop]; simp))] at e
          exact e)
        go_wp2_with (first | (go_at_call 113; (with_reducible refine (rPlain_n HPL _ (HDk.out.plus (by repeat' (first | exact Plus.refl _ | refine Plus.alloc ?_ _ | refine Plus.plus ?_ _ | refine Plus.drew ?_ | refine Plus.drewN ?_ _))) (by omega)).mono ?_); rintro e w1 ⟨rfl, ⟨x1, rfl⟩⟩) | (go_at_call 114; (with_reducible refine (rparse9_n HPA HSZ _).mono ?_); rintro e w1 ⟨A1, c1, rfl, hA, ⟨x2, rfl⟩⟩; have HA := Lib.hid hA; clear hA) | (go_at_call 89; (with_reducible refine (rbneg9_n HI HNG _ (arg_offp HA.out (by repeat (first | (refine Offp.of ?_; (repeat' (first | exact Offs.refl _ | refine Offs.plus ?_ _ | refine Offs.alloc ?_ _ | exact Offs.allocN (Offs.refl _) (nuV _ _ _ _ _ _ _ _ _ _ _ _) | refine Offs.allocN ?_ (nuV _ _ _ _ _ _ _ _ _ _ _ _) | refine Offs.allocN ?_ (nuB _ _ _ _ _) | refine Offs.allocN ?_ (nuN _ _ _) | refine Offs.drew ?_ | refine Offs.drewL ?_ | refine Offs.drewR ?_)); done) | refine Offp.plusR ?_ _ | refine Offp.allocR ?_ _ | refine Offp.drewR ?_)))).mono ?_); rintro e w1 ⟨A2, c2, rfl, hA2, ⟨x3, rfl⟩⟩; have HA2 := Lib.hid hA2; clear hA2))
        go_returns
        exact ⟨A2, c2, rfl, arg_offp HA2.out (by repeat (first | (refine Offp.of ?_; (repeat' (first | exact Offs.refl _ | refine Offs.plus ?_ _ | refine Offs.alloc ?_ _ | exact Offs.allocN (Offs.refl _) (nuV _ _ _ _ _ _ _ _ _ _ _ _) | refine Offs.allocN ?_ (nuV _ _ _ _ _ _ _ _ _ _ _ _) | refine Offs.allocN ?_ (nuB _ _ _ _ _) | refine Offs.allocN ?_ (nuN _ _ _) | refine Offs.drew ?_ | refine Offs.drewL ?_ | refine Offs.drewR ?_)); done) | refine Offp.plusR ?_ _ | refine Offp.allocR ?_ _ | refine Offp.drewR ?_)), (by repeat' (first | exact Plus.refl _ | refine Plus.alloc ?_ _ | refine Plus.plus ?_ _ | refine Plus.drew ?_ | refine Plus.drewN ?_ _))⟩
set_option maxRecDepth 100000 in
set_option maxHeartbeats 4000000 in
theorem digits_me {g o c : Nat} {r : List Nat} {S : ByteArray} {pb : Bool} {us : List Nat} {r0 er : Int} (w : World) (HT : Hid (Ar .u16 65536 w (some ⟨g, o, none⟩) (45 :: r) (r.length + 1) c)) (hc1 : ¬ c = 1) (hn : (r.length + 1) ≤ 4096) (HB2 : Hid (dgs r = true)) (HF : Hid (DgF r S r0 er pb us)) (her : (er != 0) = true) : Calls Tryz.prog 54 #[.slice (some ⟨g, o, none⟩) (r.length + 1) c] w (BgP false [] 3 w) := by
  obtain ⟨hrd, hlen, hcap, hmax, hbd⟩ := HT.out
  clear hlen
  obtain ⟨g2, o2, e2, hg, hat⟩ := hrd (by simp)
  injection e2 with e2
  injection e2 with e3 e4
  subst e3 e4
  have hcell := hat 0 (by simp)
  have hadd := add_addr g o 0
  simp only [Nat.add_zero, List.getD_cons_zero] at hcell hadd
  haveI : Old g w := ⟨hg⟩
  have hm0 : ((r.length + 1 : Nat) : Int) = (r.length : Int) + 1 := by omega
  have b0 : (((r.length : Int) + 1) == 0) = false := by simp; omega
  clear hrd hbd hat
  have HDr : Hid (Ar .u16 65536 w (some ⟨g, o + 1, none⟩) r r.length (c - 1)) := Lib.hid (by
    have e := ar_mid (a := 1) (j := r.length + 1) HT.out (by omega) (by omega)
    have e2 : ((45 :: r).drop 1).take (r.length + 1 - 1) = r := by simp
    rw [e2, show r.length + 1 - 1 = r.length by omega] at e
    exact e)
  have HPA := Lib.hid HF.out.par
  have HSZ := Lib.hid HF.out.size
  have hkl : 0 < (r).length := by
      have q := HB2.out
      unfold dgs at q
      rw [Bool.and_eq_true] at q
      have q2 := q.2
      simp only [decide_eq_true_eq] at q2
      exact q2
  have hrdD := HDr.out.rd
  go_enter Tryz.func54, Tryz.ntmps54
  go_wp2_with (go_at_call 99; (with_reducible refine (rDigits_n HB2 _ (HDr.out.plus (by repeat' (first | exact Plus.refl _ | refine Plus.alloc ?_ _ | refine Plus.plus ?_ _ | refine Plus.drew ?_ | refine Plus.drewN ?_ _)))).mono ?_); rintro e w1 ⟨rfl, rfl⟩)
  go_loop [6] (DzRel r) (fun s => (((r).length : Int) - intOf s).toNat)
  case atStart => exact ⟨0, hkl, rfl, rfl⟩
  case round =>
    obtain ⟨k, hk, rfl, hall⟩ := hrel
    obtain ⟨g3, o3, e3, hg3, hat3⟩ := hrdD.at_ hk
    injection e3 with e3
    injection e3 with e4 e5
    subst e4 e5
    have hcell2 := hat3 k hk
    have hadd2 := add_addr g (o + 1) k
    have HZ : Hid ((k + 1 = (r).length ∨ (r).getD k 0 ≠ 48) → stripZ r = (r).drop k) := Lib.hid (fun h => stripZ_at hk hall h)
    have HALL := Lib.hid hall
    obtain ⟨u, hu⟩ : ∃ u, (r).getD k 0 = u := ⟨_, rfl⟩
    rw [hu] at hcell2
    have HU := Lib.hid hu
    clear hall hat3 hu
    have hkn : k < r.length := by simpa using hk
    by_cases hlast : k + 1 = r.length
    · have b1 : decide ((k : Int) < ((r.length : Int) - 1)) = false := by simp; omega
      have HPL := Lib.hid (HF.out.pl k hk (HZ.out (Or.inl hlast)))
      have HDk : Hid (Ar .u16 65536 w (some ⟨g, o + 1 + k, none⟩) ((r).drop k) (r.length - k) ((c - 1) - k)) := Lib.hid (by
        have e := ar_mid (a := k) (j := r.length) HDr.out (by omega) (Nat.le_refl _)
        rw [List.take_of_length_le (by first | exact Nat.le_of_eq List.length_drop | (rw [List.length_drop]; simp))] at e
        exact e)
      go_wp2_with (first | (go_at_call 113; (with_reducible refine (rPlain_n HPL _ (HDk.out.plus (by repeat' (first | exact Plus.refl _ | refine Plus.alloc ?_ _ | refine Plus.plus ?_ _ | refine Plus.drew ?_ | refine Plus.drewN ?_ _))) (by omega)).mono ?_); rintro e w1 ⟨rfl, ⟨x1, rfl⟩⟩) | (go_at_call 114; (with_reducible refine (rparse9_n HPA HSZ _).mono ?_); rintro e w1 ⟨A1, c1, rfl, hA, ⟨x2, rfl⟩⟩; have HA := Lib.hid hA; clear hA))
      go_returns
      exact ⟨_, _, rfl, Bg.arg_nil, (by repeat' (first | exact Plus.refl _ | refine Plus.alloc ?_ _ | refine Plus.plus ?_ _ | refine Plus.drew ?_ | refine Plus.drewN ?_ _))⟩
    · have b1 : decide ((k : Int) < ((r.length : Int) - 1)) = true := by simp; omega
      by_cases hu48 : u = 48
      · subst hu48
        go_wp2_with fail
        go_round
        case rel => exact ⟨k + 1, by first | omega | (simp; omega), by rw [show ((k + 1 : Nat) : Int) = (k : Int) + 1 by omega], all_take HALL.out hk (by rw [HU.out]; rfl)⟩
        case measure => simp [intOf]; omega
      · have b2 : ((u : Int) == 48) = false := by simp; omega
        have HPL := Lib.hid (HF.out.pl k hk (HZ.out (Or.inr (by rw [HU.out]; exact hu48))))
        have HDk : Hid (Ar .u16 65536 w (some ⟨g, o + 1 + k, none⟩) ((r).drop k) (r.length - k) ((c - 1) - k)) := Lib.hid (by
          have e := ar_mid (a := k) (j := r.length) HDr.out (by omega) (Nat.le_refl _)
          rw [List.take_of_length_le (by first | exact Nat.le_of_eq List.length_drop | (rw [List.length_drop]; simp))] at e
          exact e)
        go_wp2_with (first | (go_at_call 113; (with_reducible refine (rPlain_n HPL _ (HDk.out.plus (by repeat' (first | exact Plus.refl _ | refine Plus.alloc ?_ _ | refine Plus.plus ?_ _ | refine Plus.drew ?_ | refine Plus.drewN ?_ _))) (by omega)).mono ?_); rintro e w1 ⟨rfl, ⟨x1, rfl⟩⟩) | (go_at_call 114; (with_reducible refine (rparse9_n HPA HSZ _).mono ?_); rintro e w1 ⟨A1, c1, rfl, hA, ⟨x2, rfl⟩⟩; have HA := Lib.hid hA; clear hA))
        go_returns
        exact ⟨_, _, rfl, Bg.arg_nil, (by repeat' (first | exact Plus.refl _ | refine Plus.alloc ?_ _ | refine Plus.plus ?_ _ | refine Plus.drew ?_ | refine Plus.drewN ?_ _))⟩
set_option maxRecDepth 100000 in
set_option maxHeartbeats 4000000 in
theorem digits_pnt {g o c : Nat} {r : List Nat} (w : World) (HT : Hid (Ar .u16 65536 w (some ⟨g, o, none⟩) (43 :: r) (r.length + 1) c)) (hc1 : ¬ c = 1) (hn : (r.length + 1) ≤ 4096) (HB2 : Hid (dgs r = false)) (HB3 : Hid (nxR (43 :: r) = true)) : Calls Tryz.prog 54 #[.slice (some ⟨g, o, none⟩) (r.length + 1) c] w (BgP false [] 3 w) := by
  obtain ⟨hrd, hlen, hcap, hmax, hbd⟩ := HT.out
  clear hlen
  obtain ⟨g2, o2, e2, hg, hat⟩ := hrd (by simp)
  injection e2 with e2
  injection e2 with e3 e4
  subst e3 e4
  have hcell := hat 0 (by simp)
  have hadd := add_addr g o 0
  simp only [Nat.add_zero, List.getD_cons_zero] at hcell hadd
  haveI : Old g w := ⟨hg⟩
  have hm0 : ((r.length + 1 : Nat) : Int) = (r.length : Int) + 1 := by omega
  have b0 : (((r.length : Int) + 1) == 0) = false := by simp; omega
  clear hrd hbd hat
  have HDr : Hid (Ar .u16 65536 w (some ⟨g, o + 1, none⟩) r r.length (c - 1)) := Lib.hid (by
    have e := ar_mid (a := 1) (j := r.length + 1) HT.out (by omega) (by omega)
    have e2 : ((43 :: r).drop 1).take (r.length + 1 - 1) = r := by simp
    rw [e2, show r.length + 1 - 1 = r.length by omega] at e
    exact e)
  go_enter Tryz.func54, Tryz.ntmps54
  go_wp2_with (first | (go_at_call 99; (with_reducible refine (rDigits_n HB2 _ (HDr.out.plus (by repeat' (first | exact Plus.refl _ | refine Plus.alloc ?_ _ | refine Plus.plus ?_ _ | refine Plus.drew ?_ | refine Plus.drewN ?_ _)))).mono ?_); rintro e w1 ⟨rfl, rfl⟩) | (go_at_call 101; (with_reducible refine (rNumX_n HB3 _ (HT.out.plus (by repeat' (first | exact Plus.refl _ | refine Plus.alloc ?_ _ | refine Plus.plus ?_ _ | refine Plus.drew ?_ | refine Plus.drewN ?_ _)))).mono ?_); rintro e w1 ⟨rfl, rfl⟩))
  go_returns
  exact ⟨_, _, rfl, Bg.arg_nil, (by repeat' (first | exact Plus.refl _ | refine Plus.alloc ?_ _ | refine Plus.plus ?_ _ | refine Plus.drew ?_ | refine Plus.drewN ?_ _))⟩
set_option maxRecDepth 100000 in
set_option maxHeartbeats 4000000 in
theorem digits_pnf {g o c : Nat} {r : List Nat} (w : World) (HT : Hid (Ar .u16 65536 w (some ⟨g, o, none⟩) (43 :: r) (r.length + 1) c)) (hc1 : ¬ c = 1) (hn : (r.length + 1) ≤ 4096) (HB2 : Hid (dgs r = false)) (HB3 : Hid (nxR (43 :: r) = false)) : Calls Tryz.prog 54 #[.slice (some ⟨g, o, none⟩) (r.length + 1) c] w (BgP false [] 5 w) := by
  obtain ⟨hrd, hlen, hcap, hmax, hbd⟩ := HT.out
  clear hlen
  obtain ⟨g2, o2, e2, hg, hat⟩ := hrd (by simp)
  injection e2 with e2
  injection e2 with e3 e4
  subst e3 e4
  have hcell := hat 0 (by simp)
  have hadd := add_addr g o 0
  simp only [Nat.add_zero, List.getD_cons_zero] at hcell hadd
  haveI : Old g w := ⟨hg⟩
  have hm0 : ((r.length + 1 : Nat) : Int) = (r.length : Int) + 1 := by omega
  have b0 : (((r.length : Int) + 1) == 0) = false := by simp; omega
  clear hrd hbd hat
  have HDr : Hid (Ar .u16 65536 w (some ⟨g, o + 1, none⟩) r r.length (c - 1)) := Lib.hid (by
    have e := ar_mid (a := 1) (j := r.length + 1) HT.out (by omega) (by omega)
    have e2 : ((43 :: r).drop 1).take (r.length + 1 - 1) = r := by simp
    rw [e2, show r.length + 1 - 1 = r.length by omega] at e
    exact e)
  go_enter Tryz.func54, Tryz.ntmps54
  go_wp2_with (first | (go_at_call 99; (with_reducible refine (rDigits_n HB2 _ (HDr.out.plus (by repeat' (first | exact Plus.refl _ | refine Plus.alloc ?_ _ | refine Plus.plus ?_ _ | refine Plus.drew ?_ | refine Plus.drewN ?_ _)))).mono ?_); rintro e w1 ⟨rfl, rfl⟩) | (go_at_call 101; (with_reducible refine (rNumX_n HB3 _ (HT.out.plus (by repeat' (first | exact Plus.refl _ | refine Plus.alloc ?_ _ | refine Plus.plus ?_ _ | refine Plus.drew ?_ | refine Plus.drewN ?_ _)))).mono ?_); rintro e w1 ⟨rfl, rfl⟩))
  go_returns
  exact ⟨_, _, rfl, Bg.arg_nil, (by repeat' (first | exact Plus.refl _ | refine Plus.alloc ?_ _ | refine Plus.plus ?_ _ | refine Plus.drew ?_ | refine Plus.drewN ?_ _))⟩
set_option maxRecDepth 100000 in
set_option maxHeartbeats 4000000 in
theorem digits_py {g o c : Nat} {r : List Nat} {S : ByteArray} {pb : Bool} {us : List Nat} {r0 : Int} (w : World) (HT : Hid (Ar .u16 65536 w (some ⟨g, o, none⟩) (43 :: r) (r.length + 1) c)) (hc1 : ¬ c = 1) (hn : (r.length + 1) ≤ 4096) (HB2 : Hid (dgs r = true)) (HF : Hid (DgF r S r0 0 pb us)) : Calls Tryz.prog 54 #[.slice (some ⟨g, o, none⟩) (r.length + 1) c] w (BgP pb us 0 w) := by
  obtain ⟨hrd, hlen, hcap, hmax, hbd⟩ := HT.out
  clear hlen
  obtain ⟨g2, o2, e2, hg, hat⟩ := hrd (by simp)
  injection e2 with e2
  injection e2 with e3 e4
  subst e3 e4
  have hcell := hat 0 (by simp)
  have hadd := add_addr g o 0
  simp only [Nat.add_zero, List.getD_cons_zero] at hcell hadd
  haveI : Old g w := ⟨hg⟩
  have hm0 : ((r.length + 1 : Nat) : Int) = (r.length : Int) + 1 := by omega
  have b0 : (((r.length : Int) + 1) == 0) = false := by simp; omega
  clear hrd hbd hat
  have HDr : Hid (Ar .u16 65536 w (some ⟨g, o + 1, none⟩) r r.length (c - 1)) := Lib.hid (by
    have e := ar_mid (a := 1) (j := r.length + 1) HT.out (by omega) (by omega)
    have e2 : ((43 :: r).drop 1).take (r.length + 1 - 1) = r := by simp
    rw [e2, show r.length + 1 - 1 = r.length by omega] at e
    exact e)
  have HPA := Lib.hid HF.out.par
  have HSZ := Lib.hid HF.out.size
  have hkl : 0 < (r).length := by
      have q := HB2.out
      unfold dgs at q
      rw [Bool.and_eq_true] at q
      have q2 := q.2
      simp only [decide_eq_true_eq] at q2
      exact q2
  have hrdD := HDr.out.rd
  go_enter Tryz.func54, Tryz.ntmps54
  go_wp2_with (go_at_call 99; (with_reducible refine (rDigits_n HB2 _ (HDr.out.plus (by repeat' (first | exact Plus.refl _ | refine Plus.alloc ?_ _ | refine Plus.plus ?_ _ | refine Plus.drew ?_ | refine Plus.drewN ?_ _)))).mono ?_); rintro e w1 ⟨rfl, rfl⟩)
  go_loop [6] (DzRel r) (fun s => (((r).length : Int) - intOf s).toNat)
  case atStart => exact ⟨0, hkl, rfl, rfl⟩
  case round =>
    obtain ⟨k, hk, rfl, hall⟩ := hrel
    obtain ⟨g3, o3, e3, hg3, hat3⟩ := hrdD.at_ hk
    injection e3 with e3
    injection e3 with e4 e5
    subst e4 e5
    have hcell2 := hat3 k hk
    have hadd2 := add_addr g (o + 1) k
    have HZ : Hid ((k + 1 = (r).length ∨ (r).getD k 0 ≠ 48) → stripZ r = (r).drop k) := Lib.hid (fun h => stripZ_at hk hall h)
    have HALL := Lib.hid hall
    obtain ⟨u, hu⟩ : ∃ u, (r).getD k 0 = u := ⟨_, rfl⟩
    rw [hu] at hcell2
    have HU := Lib.hid hu
    clear hall hat3 hu
    have hkn : k < r.length := by simpa using hk
    by_cases hlast : k + 1 = r.length
    · have b1 : decide ((k : Int) < ((r.length : Int) - 1)) = false := by simp; omega
      have HPL := Lib.hid (HF.out.pl k hk (HZ.out (Or.inl hlast)))
      have HDk : Hid (Ar .u16 65536 w (some ⟨g, o + 1 + k, none⟩) ((r).drop k) (r.length - k) ((c - 1) - k)) := Lib.hid (by
        have e := ar_mid (a := k) (j := r.length) HDr.out (by omega) (Nat.le_refl _)
        rw [List.take_of_length_le (by first | exact Nat.le_of_eq List.length_drop | (rw [List.length_drop]; simp))] at e
        exact e)
      go_wp2_with (first | (go_at_call 113; (with_reducible refine (rPlain_n HPL _ (HDk.out.plus (by repeat' (first | exact Plus.refl _ | refine Plus.alloc ?_ _ | refine Plus.plus ?_ _ | refine Plus.drew ?_ | refine Plus.drewN ?_ _))) (by omega)).mono ?_); rintro e w1 ⟨rfl, ⟨x1, rfl⟩⟩) | (go_at_call 114; (with_reducible refine (rparse9_n HPA HSZ _).mono ?_); rintro e w1 ⟨A1, c1, rfl, hA, ⟨x2, rfl⟩⟩; have HA := Lib.hid hA; clear hA))
      go_returns
      exact ⟨A1, c1, rfl, arg_offp HA.out (by repeat (first | (refine Offp.of ?_; (repeat' (first | exact Offs.refl _ | refine Offs.plus ?_ _ | refine Offs.alloc ?_ _ | exact Offs.allocN (Offs.refl _) (nuV _ _ _ _ _ _ _ _ _ _ _ _) | refine Offs.allocN ?_ (nuV _ _ _ _ _ _ _ _ _ _ _ _) | refine Offs.allocN ?_ (nuB _ _ _ _ _) | refine Offs.allocN ?_ (nuN _ _ _) | refine Offs.drew ?_ | refine Offs.drewL ?_ | refine Offs.drewR ?_)); done) | refine Offp.plusR ?_ _ | refine Offp.allocR ?_ _ | refine Offp.drewR ?_)), (by repeat' (first | exact Plus.refl _ | refine Plus.alloc ?_ _ | refine Plus.plus ?_ _ | refine Plus.drew ?_ | refine Plus.drewN ?_ _))⟩
    · have b1 : decide ((k : Int) < ((r.length : Int) - 1)) = true := by simp; omega
      by_cases hu48 : u = 48
      · subst hu48
        go_wp2_with fail
        go_round
        case rel => exact ⟨k + 1, by first | omega | (simp; omega), by rw [show ((k + 1 : Nat) : Int) = (k : Int) + 1 by omega], all_take HALL.out hk (by rw [HU.out]; rfl)⟩
        case measure => simp [intOf]; omega
      · have b2 : ((u : Int) == 48) = false := by simp; omega
        have HPL := Lib.hid (HF.out.pl k hk (HZ.out (Or.inr (by rw [HU.out]; exact hu48))))
        have HDk : Hid (Ar .u16 65536 w (some ⟨g, o + 1 + k, none⟩) ((r).drop k) (r.length - k) ((c - 1) - k)) := Lib.hid (by
          have e := ar_mid (a := k) (j := r.length) HDr.out (by omega) (Nat.le_refl _)
          rw [List.take_of_length_le (by first | exact Nat.le_of_eq List.length_drop | (rw [List.length_drop]; simp))] at e
          exact e)
        go_wp2_with (first | (go_at_call 113; (with_reducible refine (rPlain_n HPL _ (HDk.out.plus (by repeat' (first | exact Plus.refl _ | refine Plus.alloc ?_ _ | refine Plus.plus ?_ _ | refine Plus.drew ?_ | refine Plus.drewN ?_ _))) (by omega)).mono ?_); rintro e w1 ⟨rfl, ⟨x1, rfl⟩⟩) | (go_at_call 114; (with_reducible refine (rparse9_n HPA HSZ _).mono ?_); rintro e w1 ⟨A1, c1, rfl, hA, ⟨x2, rfl⟩⟩; have HA := Lib.hid hA; clear hA))
        go_returns
        exact ⟨A1, c1, rfl, arg_offp HA.out (by repeat (first | (refine Offp.of ?_; (repeat' (first | exact Offs.refl _ | refine Offs.plus ?_ _ | refine Offs.alloc ?_ _ | exact Offs.allocN (Offs.refl _) (nuV _ _ _ _ _ _ _ _ _ _ _ _) | refine Offs.allocN ?_ (nuV _ _ _ _ _ _ _ _ _ _ _ _) | refine Offs.allocN ?_ (nuB _ _ _ _ _) | refine Offs.allocN ?_ (nuN _ _ _) | refine Offs.drew ?_ | refine Offs.drewL ?_ | refine Offs.drewR ?_)); done) | refine Offp.plusR ?_ _ | refine Offp.allocR ?_ _ | refine Offp.drewR ?_)), (by repeat' (first | exact Plus.refl _ | refine Plus.alloc ?_ _ | refine Plus.plus ?_ _ | refine Plus.drew ?_ | refine Plus.drewN ?_ _))⟩
set_option maxRecDepth 100000 in
set_option maxHeartbeats 4000000 in
theorem digits_pe {g o c : Nat} {r : List Nat} {S : ByteArray} {pb : Bool} {us : List Nat} {r0 er : Int} (w : World) (HT : Hid (Ar .u16 65536 w (some ⟨g, o, none⟩) (43 :: r) (r.length + 1) c)) (hc1 : ¬ c = 1) (hn : (r.length + 1) ≤ 4096) (HB2 : Hid (dgs r = true)) (HF : Hid (DgF r S r0 er pb us)) (her : (er != 0) = true) : Calls Tryz.prog 54 #[.slice (some ⟨g, o, none⟩) (r.length + 1) c] w (BgP false [] 3 w) := by
  obtain ⟨hrd, hlen, hcap, hmax, hbd⟩ := HT.out
  clear hlen
  obtain ⟨g2, o2, e2, hg, hat⟩ := hrd (by simp)
  injection e2 with e2
  injection e2 with e3 e4
  subst e3 e4
  have hcell := hat 0 (by simp)
  have hadd := add_addr g o 0
  simp only [Nat.add_zero, List.getD_cons_zero] at hcell hadd
  haveI : Old g w := ⟨hg⟩
  have hm0 : ((r.length + 1 : Nat) : Int) = (r.length : Int) + 1 := by omega
  have b0 : (((r.length : Int) + 1) == 0) = false := by simp; omega
  clear hrd hbd hat
  have HDr : Hid (Ar .u16 65536 w (some ⟨g, o + 1, none⟩) r r.length (c - 1)) := Lib.hid (by
    have e := ar_mid (a := 1) (j := r.length + 1) HT.out (by omega) (by omega)
    have e2 : ((43 :: r).drop 1).take (r.length + 1 - 1) = r := by simp
    rw [e2, show r.length + 1 - 1 = r.length by omega] at e
    exact e)
  have HPA := Lib.hid HF.out.par
  have HSZ := Lib.hid HF.out.size
  have hkl : 0 < (r).length := by
      have q := HB2.out
      unfold dgs at q
      rw [Bool.and_eq_true] at q
      have q2 := q.2
      simp only [decide_eq_true_eq] at q2
      exact q2
  have hrdD := HDr.out.rd
  go_enter Tryz.func54, Tryz.ntmps54
  go_wp2_with (go_at_call 99; (with_reducible refine (rDigits_n HB2 _ (HDr.out.plus (by repeat' (first | exact Plus.refl _ | refine Plus.alloc ?_ _ | refine Plus.plus ?_ _ | refine Plus.drew ?_ | refine Plus.drewN ?_ _)))).mono ?_); rintro e w1 ⟨rfl, rfl⟩)
  go_loop [6] (DzRel r) (fun s => (((r).length : Int) - intOf s).toNat)
  case atStart => exact ⟨0, hkl, rfl, rfl⟩
  case round =>
    obtain ⟨k, hk, rfl, hall⟩ := hrel
    obtain ⟨g3, o3, e3, hg3, hat3⟩ := hrdD.at_ hk
    injection e3 with e3
    injection e3 with e4 e5
    subst e4 e5
    have hcell2 := hat3 k hk
    have hadd2 := add_addr g (o + 1) k
    have HZ : Hid ((k + 1 = (r).length ∨ (r).getD k 0 ≠ 48) → stripZ r = (r).drop k) := Lib.hid (fun h => stripZ_at hk hall h)
    have HALL := Lib.hid hall
    obtain ⟨u, hu⟩ : ∃ u, (r).getD k 0 = u := ⟨_, rfl⟩
    rw [hu] at hcell2
    have HU := Lib.hid hu
    clear hall hat3 hu
    have hkn : k < r.length := by simpa using hk
    by_cases hlast : k + 1 = r.length
    · have b1 : decide ((k : Int) < ((r.length : Int) - 1)) = false := by simp; omega
      have HPL := Lib.hid (HF.out.pl k hk (HZ.out (Or.inl hlast)))
      have HDk : Hid (Ar .u16 65536 w (some ⟨g, o + 1 + k, none⟩) ((r).drop k) (r.length - k) ((c - 1) - k)) := Lib.hid (by
        have e := ar_mid (a := k) (j := r.length) HDr.out (by omega) (Nat.le_refl _)
        rw [List.take_of_length_le (by first | exact Nat.le_of_eq List.length_drop | (rw [List.length_drop]; simp))] at e
        exact e)
      go_wp2_with (first | (go_at_call 113; (with_reducible refine (rPlain_n HPL _ (HDk.out.plus (by repeat' (first | exact Plus.refl _ | refine Plus.alloc ?_ _ | refine Plus.plus ?_ _ | refine Plus.drew ?_ | refine Plus.drewN ?_ _))) (by omega)).mono ?_); rintro e w1 ⟨rfl, ⟨x1, rfl⟩⟩) | (go_at_call 114; (with_reducible refine (rparse9_n HPA HSZ _).mono ?_); rintro e w1 ⟨A1, c1, rfl, hA, ⟨x2, rfl⟩⟩; have HA := Lib.hid hA; clear hA))
      go_returns
      exact ⟨_, _, rfl, Bg.arg_nil, (by repeat' (first | exact Plus.refl _ | refine Plus.alloc ?_ _ | refine Plus.plus ?_ _ | refine Plus.drew ?_ | refine Plus.drewN ?_ _))⟩
    · have b1 : decide ((k : Int) < ((r.length : Int) - 1)) = true := by simp; omega
      by_cases hu48 : u = 48
      · subst hu48
        go_wp2_with fail
        go_round
        case rel => exact ⟨k + 1, by first | omega | (simp; omega), by rw [show ((k + 1 : Nat) : Int) = (k : Int) + 1 by omega], all_take HALL.out hk (by rw [HU.out]; rfl)⟩
        case measure => simp [intOf]; omega
      · have b2 : ((u : Int) == 48) = false := by simp; omega
        have HPL := Lib.hid (HF.out.pl k hk (HZ.out (Or.inr (by rw [HU.out]; exact hu48))))
        have HDk : Hid (Ar .u16 65536 w (some ⟨g, o + 1 + k, none⟩) ((r).drop k) (r.length - k) ((c - 1) - k)) := Lib.hid (by
          have e := ar_mid (a := k) (j := r.length) HDr.out (by omega) (Nat.le_refl _)
          rw [List.take_of_length_le (by first | exact Nat.le_of_eq List.length_drop | (rw [List.length_drop]; simp))] at e
          exact e)
        go_wp2_with (first | (go_at_call 113; (with_reducible refine (rPlain_n HPL _ (HDk.out.plus (by repeat' (first | exact Plus.refl _ | refine Plus.alloc ?_ _ | refine Plus.plus ?_ _ | refine Plus.drew ?_ | refine Plus.drewN ?_ _))) (by omega)).mono ?_); rintro e w1 ⟨rfl, ⟨x1, rfl⟩⟩) | (go_at_call 114; (with_reducible refine (rparse9_n HPA HSZ _).mono ?_); rintro e w1 ⟨A1, c1, rfl, hA, ⟨x2, rfl⟩⟩; have HA := Lib.hid hA; clear hA))
        go_returns
        exact ⟨_, _, rfl, Bg.arg_nil, (by repeat' (first | exact Plus.refl _ | refine Plus.alloc ?_ _ | refine Plus.plus ?_ _ | refine Plus.drew ?_ | refine Plus.drewN ?_ _))⟩
set_option maxRecDepth 100000 in
set_option maxHeartbeats 4000000 in
theorem digits_ont {g o c v : Nat} {r : List Nat} (w : World) (HT : Hid (Ar .u16 65536 w (some ⟨g, o, none⟩) (v :: r) (r.length + 1) c)) (n45 : ((v : Int) == 45) = false) (n43 : ((v : Int) == 43) = false) (hn : (r.length + 1) ≤ 4096) (HB2 : Hid (dgs (v :: r) = false)) (HB3 : Hid (nxR (v :: r) = true)) : Calls Tryz.prog 54 #[.slice (some ⟨g, o, none⟩) (r.length + 1) c] w (BgP false [] 3 w) := by
  obtain ⟨hrd, hlen, hcap, hmax, hbd⟩ := HT.out
  clear hlen
  obtain ⟨g2, o2, e2, hg, hat⟩ := hrd (by simp)
  injection e2 with e2
  injection e2 with e3 e4
  subst e3 e4
  have hcell := hat 0 (by simp)
  have hadd := add_addr g o 0
  simp only [Nat.add_zero, List.getD_cons_zero] at hcell hadd
  haveI : Old g w := ⟨hg⟩
  have hm0 : ((r.length + 1 : Nat) : Int) = (r.length : Int) + 1 := by omega
  have b0 : (((r.length : Int) + 1) == 0) = false := by simp; omega
  clear hrd hbd hat
  have HDr := HT
  go_enter Tryz.func54, Tryz.ntmps54
  go_wp2_with (first | (go_at_call 99; (with_reducible refine (rDigits_n HB2 _ (HDr.out.plus (by repeat' (first | exact Plus.refl _ | refine Plus.alloc ?_ _ | refine Plus.plus ?_ _ | refine Plus.drew ?_ | refine Plus.drewN ?_ _)))).mono ?_); rintro e w1 ⟨rfl, rfl⟩) | (go_at_call 101; (with_reducible refine (rNumX_n HB3 _ (HT.out.plus (by repeat' (first | exact Plus.refl _ | refine Plus.alloc ?_ _ | refine Plus.plus ?_ _ | refine Plus.drew ?_ | refine Plus.drewN ?_ _)))).mono ?_); rintro e w1 ⟨rfl, rfl⟩))
  go_returns
  exact ⟨_, _, rfl, Bg.arg_nil, (by repeat' (first | exact Plus.refl _ | refine Plus.alloc ?_ _ | refine Plus.plus ?_ _ | refine Plus.drew ?_ | refine Plus.drewN ?_ _))⟩
set_option maxRecDepth 100000 in
set_option maxHeartbeats 4000000 in
theorem digits_onf {g o c v : Nat} {r : List Nat} (w : World) (HT : Hid (Ar .u16 65536 w (some ⟨g, o, none⟩) (v :: r) (r.length + 1) c)) (n45 : ((v : Int) == 45) = false) (n43 : ((v : Int) == 43) = false) (hn : (r.length + 1) ≤ 4096) (HB2 : Hid (dgs (v :: r) = false)) (HB3 : Hid (nxR (v :: r) = false)) : Calls Tryz.prog 54 #[.slice (some ⟨g, o, none⟩) (r.length + 1) c] w (BgP false [] 5 w) := by
  obtain ⟨hrd, hlen, hcap, hmax, hbd⟩ := HT.out
  clear hlen
  obtain ⟨g2, o2, e2, hg, hat⟩ := hrd (by simp)
  injection e2 with e2
  injection e2 with e3 e4
  subst e3 e4
  have hcell := hat 0 (by simp)
  have hadd := add_addr g o 0
  simp only [Nat.add_zero, List.getD_cons_zero] at hcell hadd
  haveI : Old g w := ⟨hg⟩
  have hm0 : ((r.length + 1 : Nat) : Int) = (r.length : Int) + 1 := by omega
  have b0 : (((r.length : Int) + 1) == 0) = false := by simp; omega
  clear hrd hbd hat
  have HDr := HT
  go_enter Tryz.func54, Tryz.ntmps54
  go_wp2_with (first | (go_at_call 99; (with_reducible refine (rDigits_n HB2 _ (HDr.out.plus (by repeat' (first | exact Plus.refl _ | refine Plus.alloc ?_ _ | refine Plus.plus ?_ _ | refine Plus.drew ?_ | refine Plus.drewN ?_ _)))).mono ?_); rintro e w1 ⟨rfl, rfl⟩) | (go_at_call 101; (with_reducible refine (rNumX_n HB3 _ (HT.out.plus (by repeat' (first | exact Plus.refl _ | refine Plus.alloc ?_ _ | refine Plus.plus ?_ _ | refine Plus.drew ?_ | refine Plus.drewN ?_ _)))).mono ?_); rintro e w1 ⟨rfl, rfl⟩))
  go_returns
  exact ⟨_, _, rfl, Bg.arg_nil, (by repeat' (first | exact Plus.refl _ | refine Plus.alloc ?_ _ | refine Plus.plus ?_ _ | refine Plus.drew ?_ | refine Plus.drewN ?_ _))⟩
set_option maxRecDepth 100000 in
set_option maxHeartbeats 4000000 in
theorem digits_oy {g o c v : Nat} {r : List Nat} {S : ByteArray} {pb : Bool} {us : List Nat} {r0 : Int} (w : World) (HT : Hid (Ar .u16 65536 w (some ⟨g, o, none⟩) (v :: r) (r.length + 1) c)) (n45 : ((v : Int) == 45) = false) (n43 : ((v : Int) == 43) = false) (hn : (r.length + 1) ≤ 4096) (HB2 : Hid (dgs (v :: r) = true)) (HF : Hid (DgF (v :: r) S r0 0 pb us)) : Calls Tryz.prog 54 #[.slice (some ⟨g, o, none⟩) (r.length + 1) c] w (BgP pb us 0 w) := by
  obtain ⟨hrd, hlen, hcap, hmax, hbd⟩ := HT.out
  clear hlen
  obtain ⟨g2, o2, e2, hg, hat⟩ := hrd (by simp)
  injection e2 with e2
  injection e2 with e3 e4
  subst e3 e4
  have hcell := hat 0 (by simp)
  have hadd := add_addr g o 0
  simp only [Nat.add_zero, List.getD_cons_zero] at hcell hadd
  haveI : Old g w := ⟨hg⟩
  have hm0 : ((r.length + 1 : Nat) : Int) = (r.length : Int) + 1 := by omega
  have b0 : (((r.length : Int) + 1) == 0) = false := by simp; omega
  clear hrd hbd hat
  have HDr := HT
  have HPA := Lib.hid HF.out.par
  have HSZ := Lib.hid HF.out.size
  have hkl : 0 < ((v :: r)).length := by
      have q := HB2.out
      unfold dgs at q
      rw [Bool.and_eq_true] at q
      have q2 := q.2
      simp only [decide_eq_true_eq] at q2
      exact q2
  have hrdD := HDr.out.rd
  go_enter Tryz.func54, Tryz.ntmps54
  go_wp2_with (go_at_call 99; (with_reducible refine (rDigits_n HB2 _ (HDr.out.plus (by repeat' (first | exact Plus.refl _ | refine Plus.alloc ?_ _ | refine Plus.plus ?_ _ | refine Plus.drew ?_ | refine Plus.drewN ?_ _)))).mono ?_); rintro e w1 ⟨rfl, rfl⟩)
  go_loop [6] (DzRel (v :: r)) (fun s => ((((v :: r)).length : Int) - intOf s).toNat)
  case atStart => exact ⟨0, hkl, rfl, rfl⟩
  case round =>
    obtain ⟨k, hk, rfl, hall⟩ := hrel
    obtain ⟨g3, o3, e3, hg3, hat3⟩ := hrdD.at_ hk
    injection e3 with e3
    injection e3 with e4 e5
    subst e4 e5
    have hcell2 := hat3 k hk
    have hadd2 := add_addr g (o) k
    have HZ : Hid ((k + 1 = ((v :: r)).length ∨ ((v :: r)).getD k 0 ≠ 48) → stripZ (v :: r) = ((v :: r)).drop k) := Lib.hid (fun h => stripZ_at hk hall h)
    have HALL := Lib.hid hall
    obtain ⟨u, hu⟩ : ∃ u, ((v :: r)).getD k 0 = u := ⟨_, rfl⟩
    rw [hu] at hcell2
    have HU := Lib.hid hu
    clear hall hat3 hu
    have hkn : k < (r.length + 1) := by simpa using hk
    by_cases hlast : k + 1 = (r.length + 1)
    · have b1 : decide ((k : Int) < ((r.length : Int) + 1 - 1)) = false := by simp; omega
      have HPL := Lib.hid (HF.out.pl k hk (HZ.out (Or.inl (by simp; omega))))
      have HDk : Hid (Ar .u16 65536 w (some ⟨g, o + k, none⟩) (((v :: r)).drop k) ((r.length + 1) - k) (c - k)) := Lib.hid (by
        have e := ar_mid (a := k) (j := (r.length + 1)) HDr.out (by omega) (Nat.le_refl _)
        rw [List.take_of_length_le (by first | exact Nat.le_of_eq List.length_drop | (rw [List.length_drop]; simp))] at e
        exact e)
      go_wp2_with (first | (go_at_call 113; (with_reducible refine (rPlain_n HPL _ (HDk.out.plus (by repeat' (first | exact Plus.refl _ | refine Plus.alloc ?_ _ | refine Plus.plus ?_ _ | refine Plus.drew ?_ | refine Plus.drewN ?_ _))) (by omega)).mono ?_); rintro e w1 ⟨rfl, ⟨x1, rfl⟩⟩) | (go_at_call 114; (with_reducible refine (rparse9_n HPA HSZ _).mono ?_); rintro e w1 ⟨A1, c1, rfl, hA, ⟨x2, rfl⟩⟩; have HA := Lib.hid hA; clear hA))
      go_returns
      exact ⟨A1, c1, rfl, arg_offp HA.out (by repeat (first | (refine Offp.of ?_; (repeat' (first | exact Offs.refl _ | refine Offs.plus ?_ _ | refine Offs.alloc ?_ _ | exact Offs.allocN (Offs.refl _) (nuV _ _ _ _ _ _ _ _ _ _ _ _) | refine Offs.allocN ?_ (nuV _ _ _ _ _ _ _ _ _ _ _ _) | refine Offs.allocN ?_ (nuB _ _ _ _ _) | refine Offs.allocN ?_ (nuN _ _ _) | refine Offs.drew ?_ | refine Offs.drewL ?_ | refine Offs.drewR ?_)); done) | refine Offp.plusR ?_ _ | refine Offp.allocR ?_ _ | refine Offp.drewR ?_)), (by repeat' (first | exact Plus.refl _ | refine Plus.alloc ?_ _ | refine Plus.plus ?_ _ | refine Plus.drew ?_ | refine Plus.drewN ?_ _))⟩
    · have b1 : decide ((k : Int) < ((r.length : Int) + 1 - 1)) = true := by simp; omega
      by_cases hu48 : u = 48
      · subst hu48
        go_wp2_with fail
        go_round
        case rel => exact ⟨k + 1, by first | omega | (simp; omega), by rw [show ((k + 1 : Nat) : Int) = (k : Int) + 1 by omega], all_take HALL.out hk (by rw [HU.out]; rfl)⟩
        case measure => simp [intOf]; omega
      · have b2 : ((u : Int) == 48) = false := by simp; omega
        have HPL := Lib.hid (HF.out.pl k hk (HZ.out (Or.inr (by rw [HU.out]; exact hu48))))
        have HDk : Hid (Ar .u16 65536 w (some ⟨g, o + k, none⟩) (((v :: r)).drop k) ((r.length + 1) - k) (c - k)) := Lib.hid (by
          have e := ar_mid (a := k) (j := (r.length + 1)) HDr.out (by omega) (Nat.le_refl _)
          rw [List.take_of_length_le (by first | exact Nat.le_of_eq List.length_drop | (rw [List.length_drop]; simp))] at e
          exact e)
        go_wp2_with (first | (go_at_call 113; (with_reducible refine (rPlain_n HPL _ (HDk.out.plus (by repeat' (first | exact Plus.refl _ | refine Plus.alloc ?_ _ | refine Plus.plus ?_ _ | refine Plus.drew ?_ | refine Plus.drewN ?_ _))) (by omega)).mono ?_); rintro e w1 ⟨rfl, ⟨x1, rfl⟩⟩) | (go_at_call 114; (with_reducible refine (rparse9_n HPA HSZ _).mono ?_); rintro e w1 ⟨A1, c1, rfl, hA, ⟨x2, rfl⟩⟩; have HA := Lib.hid hA; clear hA))
        go_returns
        exact ⟨A1, c1, rfl, arg_offp HA.out (by repeat (first | (refine Offp.of ?_; (repeat' (first | exact Offs.refl _ | refine Offs.plus ?_ _ | refine Offs.alloc ?_ _ | exact Offs.allocN (Offs.refl _) (nuV _ _ _ _ _ _ _ _ _ _ _ _) | refine Offs.allocN ?_ (nuV _ _ _ _ _ _ _ _ _ _ _ _) | refine Offs.allocN ?_ (nuB _ _ _ _ _) | refine Offs.allocN ?_ (nuN _ _ _) | refine Offs.drew ?_ | refine Offs.drewL ?_ | refine Offs.drewR ?_)); done) | refine Offp.plusR ?_ _ | refine Offp.allocR ?_ _ | refine Offp.drewR ?_)), (by repeat' (first | exact Plus.refl _ | refine Plus.alloc ?_ _ | refine Plus.plus ?_ _ | refine Plus.drew ?_ | refine Plus.drewN ?_ _))⟩
set_option maxRecDepth 100000 in
set_option maxHeartbeats 4000000 in
theorem digits_oe {g o c v : Nat} {r : List Nat} {S : ByteArray} {pb : Bool} {us : List Nat} {r0 er : Int} (w : World) (HT : Hid (Ar .u16 65536 w (some ⟨g, o, none⟩) (v :: r) (r.length + 1) c)) (n45 : ((v : Int) == 45) = false) (n43 : ((v : Int) == 43) = false) (hn : (r.length + 1) ≤ 4096) (HB2 : Hid (dgs (v :: r) = true)) (HF : Hid (DgF (v :: r) S r0 er pb us)) (her : (er != 0) = true) : Calls Tryz.prog 54 #[.slice (some ⟨g, o, none⟩) (r.length + 1) c] w (BgP false [] 3 w) := by
  obtain ⟨hrd, hlen, hcap, hmax, hbd⟩ := HT.out
  clear hlen
  obtain ⟨g2, o2, e2, hg, hat⟩ := hrd (by simp)
  injection e2 with e2
  injection e2 with e3 e4
  subst e3 e4
  have hcell := hat 0 (by simp)
  have hadd := add_addr g o 0
  simp only [Nat.add_zero, List.getD_cons_zero] at hcell hadd
  haveI : Old g w := ⟨hg⟩
  have hm0 : ((r.length + 1 : Nat) : Int) = (r.length : Int) + 1 := by omega
  have b0 : (((r.length : Int) + 1) == 0) = false := by simp; omega
  clear hrd hbd hat
  have HDr := HT
  have HPA := Lib.hid HF.out.par
  have HSZ := Lib.hid HF.out.size
  have hkl : 0 < ((v :: r)).length := by
      have q := HB2.out
      unfold dgs at q
      rw [Bool.and_eq_true] at q
      have q2 := q.2
      simp only [decide_eq_true_eq] at q2
      exact q2
  have hrdD := HDr.out.rd
  go_enter Tryz.func54, Tryz.ntmps54
  go_wp2_with (go_at_call 99; (with_reducible refine (rDigits_n HB2 _ (HDr.out.plus (by repeat' (first | exact Plus.refl _ | refine Plus.alloc ?_ _ | refine Plus.plus ?_ _ | refine Plus.drew ?_ | refine Plus.drewN ?_ _)))).mono ?_); rintro e w1 ⟨rfl, rfl⟩)
  go_loop [6] (DzRel (v :: r)) (fun s => ((((v :: r)).length : Int) - intOf s).toNat)
  case atStart => exact ⟨0, hkl, rfl, rfl⟩
  case round =>
    obtain ⟨k, hk, rfl, hall⟩ := hrel
    obtain ⟨g3, o3, e3, hg3, hat3⟩ := hrdD.at_ hk
    injection e3 with e3
    injection e3 with e4 e5
    subst e4 e5
    have hcell2 := hat3 k hk
    have hadd2 := add_addr g (o) k
    have HZ : Hid ((k + 1 = ((v :: r)).length ∨ ((v :: r)).getD k 0 ≠ 48) → stripZ (v :: r) = ((v :: r)).drop k) := Lib.hid (fun h => stripZ_at hk hall h)
    have HALL := Lib.hid hall
    obtain ⟨u, hu⟩ : ∃ u, ((v :: r)).getD k 0 = u := ⟨_, rfl⟩
    rw [hu] at hcell2
    have HU := Lib.hid hu
    clear hall hat3 hu
    have hkn : k < (r.length + 1) := by simpa using hk
    by_cases hlast : k + 1 = (r.length + 1)
    · have b1 : decide ((k : Int) < ((r.length : Int) + 1 - 1)) = false := by simp; omega
      have HPL := Lib.hid (HF.out.pl k hk (HZ.out (Or.inl (by simp; omega))))
      have HDk : Hid (Ar .u16 65536 w (some ⟨g, o + k, none⟩) (((v :: r)).drop k) ((r.length + 1) - k) (c - k)) := Lib.hid (by
        have e := ar_mid (a := k) (j := (r.length + 1)) HDr.out (by omega) (Nat.le_refl _)
        rw [List.take_of_length_le (by first | exact Nat.le_of_eq List.length_drop | (rw [List.length_drop]; simp))] at e
        exact e)
      go_wp2_with (first | (go_at_call 113; (with_reducible refine (rPlain_n HPL _ (HDk.out.plus (by repeat' (first | exact Plus.refl _ | refine Plus.alloc ?_ _ | refine Plus.plus ?_ _ | refine Plus.drew ?_ | refine Plus.drewN ?_ _))) (by omega)).mono ?_); rintro e w1 ⟨rfl, ⟨x1, rfl⟩⟩) | (go_at_call 114; (with_reducible refine (rparse9_n HPA HSZ _).mono ?_); rintro e w1 ⟨A1, c1, rfl, hA, ⟨x2, rfl⟩⟩; have HA := Lib.hid hA; clear hA))
      go_returns
      exact ⟨_, _, rfl, Bg.arg_nil, (by repeat' (first | exact Plus.refl _ | refine Plus.alloc ?_ _ | refine Plus.plus ?_ _ | refine Plus.drew ?_ | refine Plus.drewN ?_ _))⟩
    · have b1 : decide ((k : Int) < ((r.length : Int) + 1 - 1)) = true := by simp; omega
      by_cases hu48 : u = 48
      · subst hu48
        go_wp2_with fail
        go_round
        case rel => exact ⟨k + 1, by first | omega | (simp; omega), by rw [show ((k + 1 : Nat) : Int) = (k : Int) + 1 by omega], all_take HALL.out hk (by rw [HU.out]; rfl)⟩
        case measure => simp [intOf]; omega
      · have b2 : ((u : Int) == 48) = false := by simp; omega
        have HPL := Lib.hid (HF.out.pl k hk (HZ.out (Or.inr (by rw [HU.out]; exact hu48))))
        have HDk : Hid (Ar .u16 65536 w (some ⟨g, o + k, none⟩) (((v :: r)).drop k) ((r.length + 1) - k) (c - k)) := Lib.hid (by
          have e := ar_mid (a := k) (j := (r.length + 1)) HDr.out (by omega) (Nat.le_refl _)
          rw [List.take_of_length_le (by first | exact Nat.le_of_eq List.length_drop | (rw [List.length_drop]; simp))] at e
          exact e)
        go_wp2_with (first | (go_at_call 113; (with_reducible refine (rPlain_n HPL _ (HDk.out.plus (by repeat' (first | exact Plus.refl _ | refine Plus.alloc ?_ _ | refine Plus.plus ?_ _ | refine Plus.drew ?_ | refine Plus.drewN ?_ _))) (by omega)).mono ?_); rintro e w1 ⟨rfl, ⟨x1, rfl⟩⟩) | (go_at_call 114; (with_reducible refine (rparse9_n HPA HSZ _).mono ?_); rintro e w1 ⟨A1, c1, rfl, hA, ⟨x2, rfl⟩⟩; have HA := Lib.hid hA; clear hA))
        go_returns
        exact ⟨_, _, rfl, Bg.arg_nil, (by repeat' (first | exact Plus.refl _ | refine Plus.alloc ?_ _ | refine Plus.plus ?_ _ | refine Plus.drew ?_ | refine Plus.drewN ?_ _))⟩
theorem nm_uniq {n : Int} {p q : Bool} {u v : List Nat} (h : Bg.Nm n p u) (k : Bg.Nm n q v) : p = q ∧ u = v := ⟨h.neg.symm.trans k.neg, h.mag.symm.trans k.mag⟩
theorem dgh_m1 {g o : Nat} {z s : Int} {pb : Bool} {vs : List Nat} (hz : dgG [45] = ⟨z, s⟩) (hN : Bg.Nm z pb vs) (w : World) (h : Ar .u16 65536 w (some ⟨g, o, none⟩) [45] 1 1) (hs : 1 ≤ 4096) : Calls Tryz.prog 54 #[.slice (some ⟨g, o, none⟩) 1 1] w (BgP pb vs s w) := by
  have hD : dropS [45] = [] := by unfold dropS; simp
  have hS : sgB [45] = true := by unfold sgB; simp
  unfold dgG at hz
  rw [if_neg (by simp), hD, hS] at hz
  cases hb : dgs []
  · rw [hb, if_neg (by simp)] at hz
    cases hx : nxR [45]
    · rw [hx, if_neg (by simp)] at hz
      injection hz with e1 e2
      subst e1 e2
      obtain ⟨rfl, rfl⟩ := nm_zero hN
      exact digits_m1nf w (Lib.hid h) hs (Lib.hid hb) (Lib.hid hx)
    · rw [hx, if_pos rfl] at hz
      injection hz with e1 e2
      subst e1 e2
      obtain ⟨rfl, rfl⟩ := nm_zero hN
      exact digits_m1nt w (Lib.hid h) hs (Lib.hid hb) (Lib.hid hx)
  · exact absurd hb (by decide)
theorem dgh_p1 {g o : Nat} {z s : Int} {pb : Bool} {vs : List Nat} (hz : dgG [43] = ⟨z, s⟩) (hN : Bg.Nm z pb vs) (w : World) (h : Ar .u16 65536 w (some ⟨g, o, none⟩) [43] 1 1) (hs : 1 ≤ 4096) : Calls Tryz.prog 54 #[.slice (some ⟨g, o, none⟩) 1 1] w (BgP pb vs s w) := by
  have hD : dropS [43] = [] := by unfold dropS; simp
  have hS : sgB [43] = false := by unfold sgB; simp
  unfold dgG at hz
  rw [if_neg (by simp), hD, hS] at hz
  cases hb : dgs []
  · rw [hb, if_neg (by simp)] at hz
    cases hx : nxR [43]
    · rw [hx, if_neg (by simp)] at hz
      injection hz with e1 e2
      subst e1 e2
      obtain ⟨rfl, rfl⟩ := nm_zero hN
      exact digits_p1nf w (Lib.hid h) hs (Lib.hid hb) (Lib.hid hx)
    · rw [hx, if_pos rfl] at hz
      injection hz with e1 e2
      subst e1 e2
      obtain ⟨rfl, rfl⟩ := nm_zero hN
      exact digits_p1nt w (Lib.hid h) hs (Lib.hid hb) (Lib.hid hx)
  · exact absurd hb (by decide)
theorem dgh_m {g o c : Nat} {r : List Nat} {z s : Int} {pb : Bool} {vs : List Nat} (hz : dgG (45 :: r) = ⟨z, s⟩) (hN : Bg.Nm z pb vs) (w : World) (h : Ar .u16 65536 w (some ⟨g, o, none⟩) (45 :: r) (r.length + 1) c) (hs : (r.length + 1) ≤ 4096) (hc1 : ¬ c = 1) : Calls Tryz.prog 54 #[.slice (some ⟨g, o, none⟩) (r.length + 1) c] w (BgP pb vs s w) := by
  have hD : dropS (45 :: r) = r := by unfold dropS; simp
  have hS : sgB (45 :: r) = true := by unfold sgB; simp
  unfold dgG at hz
  rw [if_neg (by simp), hD, hS] at hz
  cases hb : dgs r
  · rw [hb, if_neg (by simp)] at hz
    cases hx : nxR (45 :: r)
    · rw [hx, if_neg (by simp)] at hz
      injection hz with e1 e2
      subst e1 e2
      obtain ⟨rfl, rfl⟩ := nm_zero hN
      exact digits_mnf w (Lib.hid h) hc1 hs (Lib.hid hb) (Lib.hid hx)
    · rw [hx, if_pos rfl] at hz
      injection hz with e1 e2
      subst e1 e2
      obtain ⟨rfl, rfl⟩ := nm_zero hN
      exact digits_mnt w (Lib.hid h) hc1 hs (Lib.hid hb) (Lib.hid hx)
  · rw [hb, if_pos rfl] at hz
    have hb' := hb
    unfold dgs at hb'
    rw [Bool.and_eq_true] at hb'
    obtain ⟨S, r0, er, pb0, us0, HF, hr0, her⟩ := DgF.mk' hb'.1 (by first | (simp; omega) | (simp at hs ⊢; omega) | omega)
    unfold dgV at hz
    rw [← hr0, ← her] at hz
    by_cases h0 : er = 0
    · rw [if_pos h0] at hz
      clear her
      subst h0
      injection hz with e1 e2
      subst e2
      simp only [if_true] at e1
      exact digits_my w (Lib.hid h) hc1 hs (Lib.hid hb) (Lib.hid HF) (Lib.hid HF.par.1.val) (Lib.hid ⟨hN, e1⟩)
    · rw [if_neg h0] at hz
      injection hz with e1 e2
      subst e1 e2
      obtain ⟨rfl, rfl⟩ := nm_zero hN
      exact digits_me w (Lib.hid h) hc1 hs (Lib.hid hb) (Lib.hid HF) (by simpa using h0)
theorem dgh_p {g o c : Nat} {r : List Nat} {z s : Int} {pb : Bool} {vs : List Nat} (hz : dgG (43 :: r) = ⟨z, s⟩) (hN : Bg.Nm z pb vs) (w : World) (h : Ar .u16 65536 w (some ⟨g, o, none⟩) (43 :: r) (r.length + 1) c) (hs : (r.length + 1) ≤ 4096) (hc1 : ¬ c = 1) : Calls Tryz.prog 54 #[.slice (some ⟨g, o, none⟩) (r.length + 1) c] w (BgP pb vs s w) := by
  have hD : dropS (43 :: r) = r := by unfold dropS; simp
  have hS : sgB (43 :: r) = false := by unfold sgB; simp
  unfold dgG at hz
  rw [if_neg (by simp), hD, hS] at hz
  cases hb : dgs r
  · rw [hb, if_neg (by simp)] at hz
    cases hx : nxR (43 :: r)
    · rw [hx, if_neg (by simp)] at hz
      injection hz with e1 e2
      subst e1 e2
      obtain ⟨rfl, rfl⟩ := nm_zero hN
      exact digits_pnf w (Lib.hid h) hc1 hs (Lib.hid hb) (Lib.hid hx)
    · rw [hx, if_pos rfl] at hz
      injection hz with e1 e2
      subst e1 e2
      obtain ⟨rfl, rfl⟩ := nm_zero hN
      exact digits_pnt w (Lib.hid h) hc1 hs (Lib.hid hb) (Lib.hid hx)
  · rw [hb, if_pos rfl] at hz
    have hb' := hb
    unfold dgs at hb'
    rw [Bool.and_eq_true] at hb'
    obtain ⟨S, r0, er, pb0, us0, HF, hr0, her⟩ := DgF.mk' hb'.1 (by first | (simp; omega) | (simp at hs ⊢; omega) | omega)
    unfold dgV at hz
    rw [← hr0, ← her] at hz
    by_cases h0 : er = 0
    · rw [if_pos h0] at hz
      clear her
      subst h0
      injection hz with e1 e2
      subst e2
      simp only [Bool.false_eq_true, if_false] at e1
      rw [← e1] at hN
      obtain ⟨rfl, rfl⟩ := nm_uniq HF.par.1 hN
      exact digits_py w (Lib.hid h) hc1 hs (Lib.hid hb) (Lib.hid HF)
    · rw [if_neg h0] at hz
      injection hz with e1 e2
      subst e1 e2
      obtain ⟨rfl, rfl⟩ := nm_zero hN
      exact digits_pe w (Lib.hid h) hc1 hs (Lib.hid hb) (Lib.hid HF) (by simpa using h0)
theorem dgh_o {g o c v : Nat} {r : List Nat} {z s : Int} {pb : Bool} {vs : List Nat} (hz : dgG (v :: r) = ⟨z, s⟩) (hN : Bg.Nm z pb vs) (w : World) (h : Ar .u16 65536 w (some ⟨g, o, none⟩) (v :: r) (r.length + 1) c) (hs : (r.length + 1) ≤ 4096) (h45 : v ≠ 45) (h43 : v ≠ 43) : Calls Tryz.prog 54 #[.slice (some ⟨g, o, none⟩) (r.length + 1) c] w (BgP pb vs s w) := by
  have hD : dropS (v :: r) = (v :: r) := by unfold dropS; simp [h45, h43]
  have hS : sgB (v :: r) = false := by unfold sgB; simp [h45]
  unfold dgG at hz
  rw [if_neg (by simp), hD, hS] at hz
  cases hb : dgs (v :: r)
  · rw [hb, if_neg (by simp)] at hz
    cases hx : nxR (v :: r)
    · rw [hx, if_neg (by simp)] at hz
      injection hz with e1 e2
      subst e1 e2
      obtain ⟨rfl, rfl⟩ := nm_zero hN
      exact digits_onf w (Lib.hid h) (by simp; omega) (by simp; omega) hs (Lib.hid hb) (Lib.hid hx)
    · rw [hx, if_pos rfl] at hz
      injection hz with e1 e2
      subst e1 e2
      obtain ⟨rfl, rfl⟩ := nm_zero hN
      exact digits_ont w (Lib.hid h) (by simp; omega) (by simp; omega) hs (Lib.hid hb) (Lib.hid hx)
  · rw [hb, if_pos rfl] at hz
    have hb' := hb
    unfold dgs at hb'
    rw [Bool.and_eq_true] at hb'
    obtain ⟨S, r0, er, pb0, us0, HF, hr0, her⟩ := DgF.mk' hb'.1 (by first | (simp; omega) | (simp at hs ⊢; omega) | omega)
    unfold dgV at hz
    rw [← hr0, ← her] at hz
    by_cases h0 : er = 0
    · rw [if_pos h0] at hz
      clear her
      subst h0
      injection hz with e1 e2
      subst e2
      simp only [Bool.false_eq_true, if_false] at e1
      rw [← e1] at hN
      obtain ⟨rfl, rfl⟩ := nm_uniq HF.par.1 hN
      exact digits_oy w (Lib.hid h) (by simp; omega) (by simp; omega) hs (Lib.hid hb) (Lib.hid HF)
    · rw [if_neg h0] at hz
      injection hz with e1 e2
      subst e1 e2
      obtain ⟨rfl, rfl⟩ := nm_zero hN
      exact digits_oe w (Lib.hid h) (by simp; omega) (by simp; omega) hs (Lib.hid hb) (Lib.hid HF) (by simpa using h0)
theorem digits9_v {A : Option Addr} {t : List Nat} {n c : Nat} {z s : Int} {pb : Bool} {vs : List Nat} (hz : dgG t = ⟨z, s⟩) (hN : Bg.Nm z pb vs) (w : World) (h : Ar .u16 65536 w A t n c) (hs : n ≤ 4096) : Calls Tryz.prog 54 #[.slice A n c] w (BgP pb vs s w) := by
  obtain rfl := h.len
  cases t with
  | nil =>
    unfold dgG at hz
    rw [if_pos rfl] at hz
    injection hz with e1 e2
    subst e1 e2
    obtain ⟨rfl, rfl⟩ := nm_zero hN
    exact digits_nil w
  | cons v r =>
    obtain ⟨g, o, rfl, _⟩ := h.rd (by simp)
    by_cases h45 : v = 45
    · subst h45
      by_cases hc : c = 1
      · subst hc
        obtain rfl : r = [] := by have := h.cap; simpa using this
        exact dgh_m1 hz hN w h hs
      · exact dgh_m hz hN w h hs hc
    · by_cases h43 : v = 43
      · subst h43
        by_cases hc : c = 1
        · subst hc
          obtain rfl : r = [] := by have := h.cap; simpa using this
          exact dgh_p1 hz hN w h hs
        · exact dgh_p hz hN w h hs hc
      · exact dgh_o hz hN w h hs h45 h43
end Go.Proofs.YtakahpbondaidaaGreatDoor
namespace Go.Proofs.YtakahpbondaidaaGreatDoor
open Go.RowKit

set_option maxRecDepth 100000 in
set_option maxHeartbeats 4000000 in
theorem tobig9_undef {k p q : Int} {g : Bool} {A C : Option Addr} {n c m d : Nat} {r : Int} {A2 C2 : Option Addr} {c2 d2 : Nat} (w : World) (hv : Hid (Vldg w (Value.agg #[.int .i64 k, .int .i64 p, .int .i64 q, .bool g, .slice A n c, .slice C m d, .int .i64 r]) (Value.agg #[.int .i64 0, .int .i64 0, .int .i64 0, .bool false, .slice A2 0 c2, .slice C2 0 d2, .int .i64 0]))) : Calls Tryz.prog 15 #[Value.agg #[.int .i64 k, .int .i64 p, .int .i64 q, .bool g, .slice A n c, .slice C m d, .int .i64 r]] w (BgP false [] 1 w) := by
  go_enter Tryz.func15, Tryz.ntmps15
  go_wp2_with (go_at_call 45; (with_reducible refine (Vldg.call hv.out (by repeat' (first | exact Plus.refl _ | refine Plus.alloc ?_ _ | refine Plus.plus ?_ _ | refine Plus.drew ?_ | refine Plus.drewN ?_ _))).mono ?_); rintro e w1 ⟨rfl, ⟨x1, rfl⟩⟩)
  go_returns
  exact ⟨none, 0, rfl, Bg.arg_nil, (by repeat' (first | exact Plus.refl _ | refine Plus.alloc ?_ _ | refine Plus.plus ?_ _ | refine Plus.drew ?_ | refine Plus.drewN ?_ _))⟩
set_option maxRecDepth 100000 in
set_option maxHeartbeats 4000000 in
theorem tobig9_null {k p q : Int} {g : Bool} {A C : Option Addr} {n c m d : Nat} {r : Int} {A2 C2 : Option Addr} {c2 d2 : Nat} (w : World) (hv : Hid (Vldg w (Value.agg #[.int .i64 k, .int .i64 p, .int .i64 q, .bool g, .slice A n c, .slice C m d, .int .i64 r]) (Value.agg #[.int .i64 1, .int .i64 0, .int .i64 0, .bool false, .slice A2 0 c2, .slice C2 0 d2, .int .i64 0]))) : Calls Tryz.prog 15 #[Value.agg #[.int .i64 k, .int .i64 p, .int .i64 q, .bool g, .slice A n c, .slice C m d, .int .i64 r]] w (BgP false [] 1 w) := by
  go_enter Tryz.func15, Tryz.ntmps15
  go_wp2_with (go_at_call 45; (with_reducible refine (Vldg.call hv.out (by repeat' (first | exact Plus.refl _ | refine Plus.alloc ?_ _ | refine Plus.plus ?_ _ | refine Plus.drew ?_ | refine Plus.drewN ?_ _))).mono ?_); rintro e w1 ⟨rfl, ⟨x1, rfl⟩⟩)
  go_returns
  exact ⟨none, 0, rfl, Bg.arg_nil, (by repeat' (first | exact Plus.refl _ | refine Plus.alloc ?_ _ | refine Plus.plus ?_ _ | refine Plus.drew ?_ | refine Plus.drewN ?_ _))⟩
set_option maxRecDepth 100000 in
set_option maxHeartbeats 4000000 in
theorem tobig9_num {k p q : Int} {g : Bool} {A C : Option Addr} {n c m d : Nat} {r : Int} {p2 q2 : Int} {A2 C2 : Option Addr} {c2 d2 : Nat} (w : World) (hv : Hid (Vldg w (Value.agg #[.int .i64 k, .int .i64 p, .int .i64 q, .bool g, .slice A n c, .slice C m d, .int .i64 r]) (Value.agg #[.int .i64 3, .int .i64 p2, .int .i64 q2, .bool false, .slice A2 0 c2, .slice C2 0 d2, .int .i64 0]))) : Calls Tryz.prog 15 #[Value.agg #[.int .i64 k, .int .i64 p, .int .i64 q, .bool g, .slice A n c, .slice C m d, .int .i64 r]] w (BgP false [] 1 w) := by
  go_enter Tryz.func15, Tryz.ntmps15
  go_wp2_with (go_at_call 45; (with_reducible refine (Vldg.call hv.out (by repeat' (first | exact Plus.refl _ | refine Plus.alloc ?_ _ | refine Plus.plus ?_ _ | refine Plus.drew ?_ | refine Plus.drewN ?_ _))).mono ?_); rintro e w1 ⟨rfl, ⟨x1, rfl⟩⟩)
  go_returns
  exact ⟨none, 0, rfl, Bg.arg_nil, (by repeat' (first | exact Plus.refl _ | refine Plus.alloc ?_ _ | refine Plus.plus ?_ _ | refine Plus.drew ?_ | refine Plus.drewN ?_ _))⟩
set_option maxRecDepth 100000 in
set_option maxHeartbeats 4000000 in
theorem tobig9_obj {k p q : Int} {g : Bool} {A C : Option Addr} {n c m d : Nat} {r : Int} {A2 C2 : Option Addr} {c2 d2 : Nat} {r2 : Int} (w : World) (hv : Hid (Vldg w (Value.agg #[.int .i64 k, .int .i64 p, .int .i64 q, .bool g, .slice A n c, .slice C m d, .int .i64 r]) (Value.agg #[.int .i64 6, .int .i64 0, .int .i64 0, .bool false, .slice A2 0 c2, .slice C2 0 d2, .int .i64 r2]))) : Calls Tryz.prog 15 #[Value.agg #[.int .i64 k, .int .i64 p, .int .i64 q, .bool g, .slice A n c, .slice C m d, .int .i64 r]] w (BgP false [] 3 w) := by
  go_enter Tryz.func15, Tryz.ntmps15
  go_wp2_with (go_at_call 45; (with_reducible refine (Vldg.call hv.out (by repeat' (first | exact Plus.refl _ | refine Plus.alloc ?_ _ | refine Plus.plus ?_ _ | refine Plus.drew ?_ | refine Plus.drewN ?_ _))).mono ?_); rintro e w1 ⟨rfl, ⟨x1, rfl⟩⟩)
  go_returns
  exact ⟨none, 0, rfl, Bg.arg_nil, (by repeat' (first | exact Plus.refl _ | refine Plus.alloc ?_ _ | refine Plus.plus ?_ _ | refine Plus.drew ?_ | refine Plus.drewN ?_ _))⟩
theorem rof9_v {z r : Int} {pb : Bool} {us : List Nat} (hr : Hid (Bg.OfN z r pb us)) (w : World) : Calls Tryz.prog 53 #[.int .i64 z] w fun e w' => ∃ (A1 : Option Addr) (c1 : Nat), e = .returned (.agg #[.bool pb, .slice A1 us.length c1]) ∧ Bg.Arg w' A1 us us.length c1 ∧ Plus w w' := Bg.rOf_n hr w
set_option maxRecDepth 100000 in
set_option maxHeartbeats 4000000 in
theorem tobig9_tru {k p q : Int} {g : Bool} {A C : Option Addr} {n c m d : Nat} {r : Int} {A2 C2 : Option Addr} {c2 d2 : Nat} (w : World) (hv : Hid (Vldg w (Value.agg #[.int .i64 k, .int .i64 p, .int .i64 q, .bool g, .slice A n c, .slice C m d, .int .i64 r]) (Value.agg #[.int .i64 2, .int .i64 0, .int .i64 0, .bool false, .slice A2 0 c2, .slice C2 0 d2, .int .i64 1]))) {pb : Bool} {us : List Nat} {rr : Int} (hO : Hid (Bg.OfN 1 rr pb us)) : Calls Tryz.prog 15 #[Value.agg #[.int .i64 k, .int .i64 p, .int .i64 q, .bool g, .slice A n c, .slice C m d, .int .i64 r]] w (BgP pb us 0 w) := by
  go_enter Tryz.func15, Tryz.ntmps15
  go_wp2_with (first | (go_at_call 45; (with_reducible refine (Vldg.call hv.out (by repeat' (first | exact Plus.refl _ | refine Plus.alloc ?_ _ | refine Plus.plus ?_ _ | refine Plus.drew ?_ | refine Plus.drewN ?_ _))).mono ?_); rintro e w1 ⟨rfl, ⟨x1, rfl⟩⟩) | (go_at_call 53; (with_reducible refine (rof9_v hO _).mono ?_); rintro e w2 ⟨A1, c1, rfl, hA, ⟨x2, rfl⟩⟩; have HA := Lib.hid hA; clear hA))
  go_returns
  exact ⟨A1, c1, rfl, arg_offp HA.out (by repeat (first | (refine Offp.of ?_; (repeat' (first | exact Offs.refl _ | refine Offs.plus ?_ _ | refine Offs.alloc ?_ _ | exact Offs.allocN (Offs.refl _) (nuV _ _ _ _ _ _ _ _ _ _ _ _) | refine Offs.allocN ?_ (nuV _ _ _ _ _ _ _ _ _ _ _ _) | refine Offs.allocN ?_ (nuB _ _ _ _ _) | refine Offs.allocN ?_ (nuN _ _ _) | refine Offs.drew ?_ | refine Offs.drewL ?_ | refine Offs.drewR ?_)); done) | refine Offp.plusR ?_ _ | refine Offp.allocR ?_ _ | refine Offp.drewR ?_)), (by repeat' (first | exact Plus.refl _ | refine Plus.alloc ?_ _ | refine Plus.plus ?_ _ | refine Plus.drew ?_ | refine Plus.drewN ?_ _))⟩
set_option maxRecDepth 100000 in
set_option maxHeartbeats 4000000 in
theorem tobig9_fal {k p q : Int} {g : Bool} {A C : Option Addr} {n c m d : Nat} {r : Int} {A2 C2 : Option Addr} {c2 d2 : Nat} (w : World) (hv : Hid (Vldg w (Value.agg #[.int .i64 k, .int .i64 p, .int .i64 q, .bool g, .slice A n c, .slice C m d, .int .i64 r]) (Value.agg #[.int .i64 2, .int .i64 0, .int .i64 0, .bool false, .slice A2 0 c2, .slice C2 0 d2, .int .i64 0]))) {pb : Bool} {us : List Nat} {rr : Int} (hO : Hid (Bg.OfN 0 rr pb us)) : Calls Tryz.prog 15 #[Value.agg #[.int .i64 k, .int .i64 p, .int .i64 q, .bool g, .slice A n c, .slice C m d, .int .i64 r]] w (BgP pb us 0 w) := by
  go_enter Tryz.func15, Tryz.ntmps15
  go_wp2_with (first | (go_at_call 45; (with_reducible refine (Vldg.call hv.out (by repeat' (first | exact Plus.refl _ | refine Plus.alloc ?_ _ | refine Plus.plus ?_ _ | refine Plus.drew ?_ | refine Plus.drewN ?_ _))).mono ?_); rintro e w1 ⟨rfl, ⟨x1, rfl⟩⟩) | (go_at_call 53; (with_reducible refine (rof9_v hO _).mono ?_); rintro e w2 ⟨A1, c1, rfl, hA, ⟨x2, rfl⟩⟩; have HA := Lib.hid hA; clear hA))
  go_returns
  exact ⟨A1, c1, rfl, arg_offp HA.out (by repeat (first | (refine Offp.of ?_; (repeat' (first | exact Offs.refl _ | refine Offs.plus ?_ _ | refine Offs.alloc ?_ _ | exact Offs.allocN (Offs.refl _) (nuV _ _ _ _ _ _ _ _ _ _ _ _) | refine Offs.allocN ?_ (nuV _ _ _ _ _ _ _ _ _ _ _ _) | refine Offs.allocN ?_ (nuB _ _ _ _ _) | refine Offs.allocN ?_ (nuN _ _ _) | refine Offs.drew ?_ | refine Offs.drewL ?_ | refine Offs.drewR ?_)); done) | refine Offp.plusR ?_ _ | refine Offp.allocR ?_ _ | refine Offp.drewR ?_)), (by repeat' (first | exact Plus.refl _ | refine Plus.alloc ?_ _ | refine Plus.plus ?_ _ | refine Plus.drew ?_ | refine Plus.drewN ?_ _))⟩
set_option maxRecDepth 100000 in
set_option maxHeartbeats 4000000 in
theorem tobig9_big {k p q : Int} {g : Bool} {A C : Option Addr} {n c m d : Nat} {r : Int} {g2 : Bool} {A2 C2 : Option Addr} {xs2 : List Nat} {n2 c2 d2 : Nat} (w : World) (hv : Hid (Vldg w (Value.agg #[.int .i64 k, .int .i64 p, .int .i64 q, .bool g, .slice A n c, .slice C m d, .int .i64 r]) (Value.agg #[.int .i64 4, .int .i64 0, .int .i64 0, .bool g2, .slice A2 n2 c2, .slice C2 0 d2, .int .i64 0]))) (hb : Hid (Bg.Arg w A2 xs2 n2 c2)) : Calls Tryz.prog 15 #[Value.agg #[.int .i64 k, .int .i64 p, .int .i64 q, .bool g, .slice A n c, .slice C m d, .int .i64 r]] w (BgQ g2 xs2 n2 0 w) := by
  go_enter Tryz.func15, Tryz.ntmps15
  go_wp2_with (first | (go_at_call 45; (with_reducible refine (Vldg.call hv.out (by repeat' (first | exact Plus.refl _ | refine Plus.alloc ?_ _ | refine Plus.plus ?_ _ | refine Plus.drew ?_ | refine Plus.drewN ?_ _))).mono ?_); rintro e w1 ⟨rfl, ⟨x1, rfl⟩⟩) | (go_at_call 42; (with_reducible refine (Bg.rcopy_c _ (hb.out.plus (by repeat' (first | exact Plus.refl _ | refine Plus.alloc ?_ _ | refine Plus.plus ?_ _ | refine Plus.drew ?_ | refine Plus.drewN ?_ _)))).mono ?_); rintro e w2 ⟨A1, c1, rfl, hA, ⟨x2, rfl⟩⟩; have HA := Lib.hid hA; clear hA))
  go_returns
  exact ⟨A1, c1, rfl, arg_offp HA.out (by repeat (first | (refine Offp.of ?_; (repeat' (first | exact Offs.refl _ | refine Offs.plus ?_ _ | refine Offs.alloc ?_ _ | exact Offs.allocN (Offs.refl _) (nuV _ _ _ _ _ _ _ _ _ _ _ _) | refine Offs.allocN ?_ (nuV _ _ _ _ _ _ _ _ _ _ _ _) | refine Offs.allocN ?_ (nuB _ _ _ _ _) | refine Offs.allocN ?_ (nuN _ _ _) | refine Offs.drew ?_ | refine Offs.drewL ?_ | refine Offs.drewR ?_)); done) | refine Offp.plusR ?_ _ | refine Offp.allocR ?_ _ | refine Offp.drewR ?_)), (by repeat' (first | exact Plus.refl _ | refine Plus.alloc ?_ _ | refine Plus.plus ?_ _ | refine Plus.drew ?_ | refine Plus.drewN ?_ _))⟩
theorem rTrim9 {A : Option Addr} {xs : List Nat} {n c : Nat} (w : World) (ha : Ar .u16 65536 w A xs n c) : Calls Tryz.prog 55 #[.slice A n c] w (fun e w' => ∃ (C : Option Addr) (m d : Nat) (mid : List Nat), e = .returned (.slice C m d) ∧ w = w' ∧ TrimOf xs mid ∧ (Ar .u16 65536 w C mid m d) ∧ m ≤ n) := by
  refine (rTrim_c A xs n c w ha).mono ?_
  rintro e w' ⟨C, m, d, mid, rfl, rfl, hM, hall⟩
  have hAr := hall w ha
  refine ⟨C, m, d, mid, rfl, rfl, hM, hAr, ?_⟩
  obtain ⟨b1, b2, rfl, _, _, _⟩ := hM
  rw [hAr.len, ha.len]
  simp only [List.length_append]
  omega
set_option maxRecDepth 100000 in
set_option maxHeartbeats 4000000 in
theorem tobig9_text {k p q : Int} {g : Bool} {A C : Option Addr} {n c m d : Nat} {r : Int} {A2 C2 : Option Addr} {us2 : List Nat} {c2 m2 d2 : Nat} (w : World) (hv : Hid (Vldg w (Value.agg #[.int .i64 k, .int .i64 p, .int .i64 q, .bool g, .slice A n c, .slice C m d, .int .i64 r]) (Value.agg #[.int .i64 5, .int .i64 0, .int .i64 0, .bool false, .slice A2 0 c2, .slice C2 m2 d2, .int .i64 0]))) (hs : Hid (Ar .u16 65536 w C2 us2 m2 d2)) {z s : Int} {pb : Bool} {us : List Nat} (hz : Hid (bgU us2 = ⟨z, s⟩)) (hN : Hid (Bg.Nm z pb us)) (hm : m2 ≤ 4096) : Calls Tryz.prog 15 #[Value.agg #[.int .i64 k, .int .i64 p, .int .i64 q, .bool g, .slice A n c, .slice C m d, .int .i64 r]] w (BgP pb us s w) := by
  go_enter Tryz.func15, Tryz.ntmps15
  go_wp2_with (first | (go_at_call 45; (with_reducible refine (Vldg.call hv.out (by repeat' (first | exact Plus.refl _ | refine Plus.alloc ?_ _ | refine Plus.plus ?_ _ | refine Plus.drew ?_ | refine Plus.drewN ?_ _))).mono ?_); rintro e w1 ⟨rfl, ⟨x1, rfl⟩⟩) | (go_at_call 55; (with_reducible refine (rTrim9 _ (hs.out.plus (by repeat' (first | exact Plus.refl _ | refine Plus.alloc ?_ _ | refine Plus.plus ?_ _ | refine Plus.drew ?_ | refine Plus.drewN ?_ _)))).mono ?_); rintro e w2 ⟨C3, m3, d3, mid, rfl, rfl, hM, hAr, hm3⟩; have HM := Lib.hid hM; have HAr := Lib.hid hAr; clear hM hAr) | (go_at_call 54; (with_reducible refine (digits9_v ((bgU_mid HM.out).symm.trans hz.out) hN.out _ (HAr.out.plus (by repeat' (first | exact Plus.refl _ | refine Plus.alloc ?_ _ | refine Plus.plus ?_ _ | refine Plus.drew ?_ | refine Plus.drewN ?_ _))) (by omega)).mono ?_); rintro e w2 ⟨A1, c1, rfl, hA, ⟨x2, rfl⟩⟩; have HA := Lib.hid hA; clear hA))
  go_returns
  exact ⟨A1, c1, rfl, arg_offp HA.out (by repeat (first | (refine Offp.of ?_; (repeat' (first | exact Offs.refl _ | refine Offs.plus ?_ _ | refine Offs.alloc ?_ _ | exact Offs.allocN (Offs.refl _) (nuV _ _ _ _ _ _ _ _ _ _ _ _) | refine Offs.allocN ?_ (nuV _ _ _ _ _ _ _ _ _ _ _ _) | refine Offs.allocN ?_ (nuB _ _ _ _ _) | refine Offs.allocN ?_ (nuN _ _ _) | refine Offs.drew ?_ | refine Offs.drewL ?_ | refine Offs.drewR ?_)); done) | refine Offp.plusR ?_ _ | refine Offp.allocR ?_ _ | refine Offp.drewR ?_)), (by repeat' (first | exact Plus.refl _ | refine Plus.alloc ?_ _ | refine Plus.plus ?_ _ | refine Plus.drew ?_ | refine Plus.drewN ?_ _))⟩
theorem tobig9_v {k p q : Int} {g : Bool} {A C : Option Addr} {n c m d : Nat} {r : Int} {v' : Value} {x : JV} {z s : Int} {pb : Bool} {vs : List Nat} (hJ : Hid (bigJ x = ⟨z, s⟩)) (hN : Hid (Bg.Nm z pb vs)) (w : World) (hn : NV w v' x) (hv : Vldg w (Value.agg #[.int .i64 k, .int .i64 p, .int .i64 q, .bool g, .slice A n c, .slice C m d, .int .i64 r]) v') :
    Calls Tryz.prog 15 #[Value.agg #[.int .i64 k, .int .i64 p, .int .i64 q, .bool g, .slice A n c, .slice C m d, .int .i64 r]] w (BgP pb vs s w) := by
  have q := hJ.out
  have hN' := hN.out
  cases x with
  | undef =>
    obtain ⟨A2, C2, c2, d2, rfl, h1, h2⟩ := hn
    simp only [bigJ, G2.mk.injEq] at q
    obtain ⟨rfl, rfl⟩ := q
    obtain ⟨rfl, rfl⟩ := nm_zero hN'
    exact tobig9_undef w (Lib.hid hv)
  | null =>
    obtain ⟨A2, C2, c2, d2, rfl, h1, h2⟩ := hn
    simp only [bigJ, G2.mk.injEq] at q
    obtain ⟨rfl, rfl⟩ := q
    obtain ⟨rfl, rfl⟩ := nm_zero hN'
    exact tobig9_null w (Lib.hid hv)
  | num p2 q2 =>
    obtain ⟨A2, C2, c2, d2, rfl, h1, h2, h3⟩ := hn
    simp only [bigJ, G2.mk.injEq] at q
    obtain ⟨rfl, rfl⟩ := q
    obtain ⟨rfl, rfl⟩ := nm_zero hN'
    exact tobig9_num w (Lib.hid hv)
  | obj r2 =>
    obtain ⟨A2, C2, c2, d2, rfl, h1, h2, h3⟩ := hn
    simp only [bigJ, G2.mk.injEq] at q
    obtain ⟨rfl, rfl⟩ := q
    obtain ⟨rfl, rfl⟩ := nm_zero hN'
    exact tobig9_obj w (Lib.hid hv)
  | bool b0 =>
    obtain ⟨A2, C2, c2, d2, rfl, h1, h2⟩ := hn
    simp only [bigJ, G2.mk.injEq] at q
    obtain ⟨rfl, rfl⟩ := q
    cases b0
    · exact tobig9_fal w (Lib.hid hv) (Lib.hid ⟨hN', rfl, by decide, by decide⟩)
    · exact tobig9_tru w (Lib.hid hv) (Lib.hid ⟨hN', rfl, by decide, by decide⟩)
  | big z =>
    obtain ⟨g2, A2, C2, xs2, n2, c2, d2, rfl, h1, h2, rfl, h4⟩ := hn
    simp only [bigJ, G2.mk.injEq] at q
    obtain ⟨rfl, rfl⟩ := q
    obtain ⟨e1, e2, _⟩ := Bg.may_yes h4.lim.1 h2
    have e3 : xs2 = vs := e1.trans hN'.mag
    have e4 : g2 = pb := e2.trans hN'.neg
    have e5 := h4.len
    subst e3 e4 e5
    exact tobig9_big w (Lib.hid hv) (Lib.hid h4)
  | text us2 =>
    obtain ⟨A2, C2, c2, m2, d2, rfl, h1, h2, h3⟩ := hn
    exact tobig9_text w (Lib.hid hv) (Lib.hid h3) (Lib.hid q) hN (by rw [h3.len]; exact h2)
end Go.Proofs.YtakahpbondaidaaGreatDoor
