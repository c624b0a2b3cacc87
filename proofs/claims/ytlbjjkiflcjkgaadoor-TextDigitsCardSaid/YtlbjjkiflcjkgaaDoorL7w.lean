/- The walk of TextKeys. -/
import Derived.IntWalk
import Derived.Test.YtlbjjkiflcjkgaaDoorL7m
namespace Go.Proofs.YtlbjjkiflcjkgaaDoor
open Go.RowKit


theorem number_n7 {A : Option Addr} {xs : List Nat} {n c : Nat} {k0 n0 : Int} {ok : Bool} (hh : Hid (numU xs = ⟨k0, n0, ok⟩)) (w : World) (hL : Lai w) (h : Ar .u16 65536 w A xs n c) (hs : n ≤ 1000000) :
    Calls Tryd.prog 24 #[.slice A n c] w fun e w' => e = .returned (.tuple #[.agg #[.int .i64 k0, .int .i64 n0], .bool ok]) ∧ Plus w w' := by
  have e := number_c A xs n c w hL h hs
  rw [hh.out] at e
  exact e
def KeyR (a : Ans) (r : Int) (b : Bool) : Prop := (a.ok = true ∧ a.k = 0 ∧ 0 ≤ a.n ∧ a.n ≤ 4294967294) ∧ r = a.n ∧ b = true ∨ ¬ (a.ok = true ∧ a.k = 0 ∧ 0 ≤ a.n ∧ a.n ≤ 4294967294) ∧ r = 0 ∧ b = false
theorem key_n {A : Option Addr} {xs : List Nat} {n c : Nat} {r : Int} {b : Bool} (hb : Hid (KeyR (parS (plS xs).data.toList) r b)) (w : World) (hL : Lai w) (h : Ar .u16 65536 w A xs n c) (hs : n ≤ 1000000) :
    Calls Tryd.prog 23 #[.slice A n c] w fun e w' => e = .returned (.tuple #[.int .i64 r, .bool b]) ∧ Plus w w' :=
  key_h A xs n c w (Lib.hid hL) (Lib.hid h) (by omega) _ _ _ (Lib.hid rfl) r b hb
set_option maxRecDepth 100000 in
set_option maxHeartbeats 4000000 in
theorem keys_yes (A : Option Addr) (xs : List Nat) (n c m : Nat) (w : World) (hL : Hid (Lai w)) (ha : Hid (Ar .u16 65536 w A xs n c)) (f1 : n ≤ 5000) (fm : m ≤ 4294967294) (T : ByteArray) (hT : T.size ≤ 30) (hk : Hid (KeyR (parS (plS xs).data.toList) m true)) (hn : Hid (numU xs = ⟨0, m, true⟩)) (hx : Hid (nats T = xs ∧ n = xs.length)) (hd : Hid (∀ w, Calls Tryd.prog 26 #[.int .i64 (m : Int)] w fun e w' => e = .returned (.string T) ∧ Plus w w')) :
    Calls Tryd.prog 7 #[.slice A n c] w fun e w' => e = .returned (.bool true) ∧ Plus w w' := by
  go_enter Tryd.func7, Tryd.ntmps7
  go_wp2_with fail
  refine (first_c _ (hL.out.plus (by repeat' (first | exact Plus.refl _ | refine Plus.alloc ?_ _ | refine Plus.plus ?_ _ | refine Plus.drew ?_ | refine Plus.drewN ?_ _)))).mono ?_
  rintro e w1 ⟨rfl, ⟨y0, rfl⟩⟩
  go_wp2_with fail
  refine (key_n hk _ (hL.out.plus (by repeat' (first | exact Plus.refl _ | refine Plus.alloc ?_ _ | refine Plus.plus ?_ _ | refine Plus.drew ?_ | refine Plus.drewN ?_ _))) (ha.out.plus (by repeat' (first | exact Plus.refl _ | refine Plus.alloc ?_ _ | refine Plus.plus ?_ _ | refine Plus.drew ?_ | refine Plus.drewN ?_ _))) (by omega)).mono ?_
  rintro e w1 ⟨rfl, ⟨y1, rfl⟩⟩
  go_wp2_with fail
  refine (number_n7 hn _ (hL.out.plus (by repeat' (first | exact Plus.refl _ | refine Plus.alloc ?_ _ | refine Plus.plus ?_ _ | refine Plus.drew ?_ | refine Plus.drewN ?_ _))) (ha.out.plus (by repeat' (first | exact Plus.refl _ | refine Plus.alloc ?_ _ | refine Plus.plus ?_ _ | refine Plus.drew ?_ | refine Plus.drewN ?_ _))) (by omega)).mono ?_
  rintro e w1 ⟨rfl, ⟨y2, rfl⟩⟩
  go_wp2_with fail
  refine (first_c _ (hL.out.plus (by repeat' (first | exact Plus.refl _ | refine Plus.alloc ?_ _ | refine Plus.plus ?_ _ | refine Plus.drew ?_ | refine Plus.drewN ?_ _)))).mono ?_
  rintro e w1 ⟨rfl, ⟨y3, rfl⟩⟩
  go_wp2_with fail
  refine (hd.out _).mono ?_
  rintro e w1 ⟨rfl, ⟨y4, rfl⟩⟩
  go_wp2_with fail
  refine (refAscii_n T (by omega) xs n hx _).mono ?_
  rintro e w1 ⟨C, d, rfl, hv, ⟨y5, rfl⟩⟩
  replace hv := Lib.hid hv
  go_wp2_with fail
  refine (refUnits_n (b := true) (xs := xs) (ys := xs) (Lib.hid (by simp)) _ (ha.out.plus (by repeat' (first | exact Plus.refl _ | refine Plus.alloc ?_ _ | refine Plus.plus ?_ _ | refine Plus.drew ?_ | refine Plus.drewN ?_ _))) (hv.out.plus (by repeat' (first | exact Plus.refl _ | refine Plus.alloc ?_ _ | refine Plus.plus ?_ _ | refine Plus.drew ?_ | refine Plus.drewN ?_ _)))).mono ?_
  rintro e w1 ⟨rfl, ⟨y6, rfl⟩⟩
  go_wp2_with fail
  go_returns
  exact ⟨rfl, (by repeat' (first | exact Plus.refl _ | refine Plus.alloc ?_ _ | refine Plus.plus ?_ _ | refine Plus.drew ?_ | refine Plus.drewN ?_ _))⟩

set_option maxRecDepth 100000 in
set_option maxHeartbeats 4000000 in
theorem keys_no (A : Option Addr) (xs : List Nat) (n c : Nat) (w : World) (hL : Hid (Lai w)) (ha : Hid (Ar .u16 65536 w A xs n c)) (f1 : n ≤ 5000) (hk : Hid (KeyR (parS (plS xs).data.toList) 0 false)) :
    Calls Tryd.prog 7 #[.slice A n c] w fun e w' => e = .returned (.bool true) ∧ Plus w w' := by
  go_enter Tryd.func7, Tryd.ntmps7
  go_wp2_with fail
  refine (first_c _ (hL.out.plus (by repeat' (first | exact Plus.refl _ | refine Plus.alloc ?_ _ | refine Plus.plus ?_ _ | refine Plus.drew ?_ | refine Plus.drewN ?_ _)))).mono ?_
  rintro e w1 ⟨rfl, ⟨y0, rfl⟩⟩
  go_wp2_with fail
  refine (key_n hk _ (hL.out.plus (by repeat' (first | exact Plus.refl _ | refine Plus.alloc ?_ _ | refine Plus.plus ?_ _ | refine Plus.drew ?_ | refine Plus.drewN ?_ _))) (ha.out.plus (by repeat' (first | exact Plus.refl _ | refine Plus.alloc ?_ _ | refine Plus.plus ?_ _ | refine Plus.drew ?_ | refine Plus.drewN ?_ _))) (by omega)).mono ?_
  rintro e w1 ⟨rfl, ⟨y1, rfl⟩⟩
  go_wp2_with fail
  refine (first_c _ (hL.out.plus (by repeat' (first | exact Plus.refl _ | refine Plus.alloc ?_ _ | refine Plus.plus ?_ _ | refine Plus.drew ?_ | refine Plus.drewN ?_ _)))).mono ?_
  rintro e w1 ⟨rfl, ⟨y3, rfl⟩⟩
  go_wp2_with fail
  go_returns
  exact ⟨rfl, (by repeat' (first | exact Plus.refl _ | refine Plus.alloc ?_ _ | refine Plus.plus ?_ _ | refine Plus.drew ?_ | refine Plus.drewN ?_ _))⟩

set_option maxRecDepth 100000 in
set_option maxHeartbeats 4000000 in
theorem keys_few (A : Option Addr) (n c : Nat) (w : World) (hL : Hid (Lai w)) (f1 : 5000 < n) : Calls Tryd.prog 7 #[.slice A n c] w fun e w' => e = .returned (.bool true) ∧ Plus w w' := by
  go_enter Tryd.func7, Tryd.ntmps7
  go_wp2_with fail
  refine (first_c _ (hL.out.plus (by repeat' (first | exact Plus.refl _ | refine Plus.alloc ?_ _ | refine Plus.plus ?_ _ | refine Plus.drew ?_ | refine Plus.drewN ?_ _)))).mono ?_
  rintro e w1 ⟨rfl, ⟨y0, rfl⟩⟩
  go_wp2_with fail
  refine (first_c _ (hL.out.plus (by repeat' (first | exact Plus.refl _ | refine Plus.alloc ?_ _ | refine Plus.plus ?_ _ | refine Plus.drew ?_ | refine Plus.drewN ?_ _)))).mono ?_
  rintro e w1 ⟨rfl, ⟨y3, rfl⟩⟩
  go_wp2_with fail
  go_returns
  exact ⟨rfl, (by repeat' (first | exact Plus.refl _ | refine Plus.alloc ?_ _ | refine Plus.plus ?_ _ | refine Plus.drew ?_ | refine Plus.drewN ?_ _))⟩

theorem low_of_ok {xs : List Nat} (h : (parS (plS xs).data.toList).ok = true) : low xs = true := by
  cases q : low xs
  · unfold plS at h
    rw [q, if_neg (by simp)] at h
    exact absurd h (by decide)
  · rfl
theorem plS_low {xs : List Nat} (h : low xs = true) : (plS xs).data.toList = xs.map Nat.toUInt8 := by
  unfold plS
  rw [if_pos h]
  rfl
theorem nats_low {xs : List Nat} {T : ByteArray} (h : low xs = true) (hT : T.data.toList = xs.map Nat.toUInt8) : nats T = xs := by
  unfold nats
  rw [hT, List.map_map]
  have : ∀ l : List Nat, low l = true → l.map (UInt8.toNat ∘ Nat.toUInt8) = l := fun l => by
    induction l with
    | nil => intro _; rfl
    | cons x l ih =>
      intro q
      unfold low at q ih
      rw [List.all_cons, Bool.and_eq_true] at q
      have q1 : x < 128 := by simpa using q.1
      rw [List.map_cons, ih q.2, Function.comp, toNat_u8 (by omega)]
  exact this xs h
theorem keys_w (A : Option Addr) (xs : List Nat) (n c : Nat) (w : World) (hL : Lai w) (ha : Ar .u16 65536 w A xs n c) :
    Calls Tryd.prog 7 #[.slice A n c] w fun e w' => e = .returned (.bool true) ∧ Plus w w' := by
  by_cases hf : n ≤ 5000
  · by_cases hk : (parS (plS xs).data.toList).ok = true ∧ (parS (plS xs).data.toList).k = 0 ∧ 0 ≤ (parS (plS xs).data.toList).n ∧ (parS (plS xs).data.toList).n ≤ 4294967294
    · have hK : KeyR (parS (plS xs).data.toList) (parS (plS xs).data.toList).n true := .inl ⟨hk, rfl, rfl⟩
      obtain ⟨k1, k2, k3, k4⟩ := hk
      have hlo := low_of_ok k1
      have hpl := plS_low hlo
      obtain ⟨m, hm⟩ : ∃ m : Nat, (parS (plS xs).data.toList).n = m := ⟨(parS (plS xs).data.toList).n.toNat, by omega⟩
      have hP : parS (plS xs).data.toList = ⟨0, m, true⟩ := by
        rw [← hm, ← k1, ← k2]
      have hD := par_key hP rfl (by omega)
      rw [Int.toNat_natCast] at hD
      rw [hm] at hK k4
      have hN : numU xs = ⟨0, m, true⟩ := by
        unfold numU
        rw [if_pos hlo, ← hpl, hD, num_dig (by obtain ⟨c, r, e, _⟩ := dd_cons m; rw [e]; simp) (dd_dig m), wz_dd, ← hD, hP]
      refine keys_yes A xs n c m w (Lib.hid hL) (Lib.hid ha) hf (by omega) ⟨(Lib.decDigits m).toArray⟩ ?_ (Lib.hid hK) (Lib.hid hN) (Lib.hid ⟨nats_low hlo ?_, ha.len⟩) (Lib.hid (dec_c m (by omega)))
      · have := dec_len (m := m) (by omega)
        show (Lib.decDigits m).toArray.size ≤ 30
        simp
        omega
      · rw [← hpl, hD]
    · exact keys_no A xs n c w (Lib.hid hL) (Lib.hid ha) hf (Lib.hid (.inr ⟨hk, rfl, rfl⟩))
  · exact keys_few A n c w (Lib.hid hL) (by omega)
end Go.Proofs.YtlbjjkiflcjkgaaDoor
