/- The walk of TextDigits. -/
import Derived.IntWalk
import Derived.Test.YtlbjjkiflcjkgaaDoorL11m
namespace Go.Proofs.YtlbjjkiflcjkgaaDoor
open Go.RowKit


def DgRel (m q : Nat) (W : World) (s1 s2 : Value) (wr : World) : Prop :=
  ∃ k A c N, k ≤ q ∧ s2 = .int .i64 (k : Nat) ∧ s1 = .slice A N c ∧ N ≤ k + 30 ∧ Ar .u16 65536 wr A (zn k m) N c ∧ Plus W wr
theorem own_lit (w : World) (g : Nat) (hg : g = w.heap.size) : (w.alloc (.cells #[.int .u16 48] 35)).ownsRow w.heap.size 35 1 (.slice (some ⟨g, 0, none⟩) 1 1) ([48] : List Nat).length (vals .u16 [48]) := by
  subst hg
  exact ⟨by rfl, .inr ⟨_, 1, _, rfl, Nat.le_refl _, heap_alloc_new w _, by simp, by unfold maxLen; omega, rfl, rfl⟩⟩
theorem DgRel.step {m q k N c g : Nat} {A : Option Addr} {W wr w1 : World} {v1 : Value} (hk : k < q) (hN : N ≤ k + 30) (har : Ar .u16 65536 wr A (zn k m) N c) (hp : Plus W wr) (hg : g = wr.heap.size)
    (h1 : w1.ownsRow wr.heap.size 35 1 v1 (([48] : List Nat).length + (zn k m).length) (vals .u16 [48] ++ vals .u16 (zn k m))) (h2 : (wr.alloc (.cells #[.int .u16 48] 35)).grownBy w1 (Value.slice (some ⟨g, 0, none⟩) 1 1).ownBlock) : DgRel m q W v1 (.int .i64 ((k : Int) + 1)) w1 := by
  obtain ⟨C, d, z, rfl, rfl, a⟩ := appended_rd (own_lit wr g hg) (by exact Plus.alloc (Plus.refl _) _) h1 h2 (K := 65536) (zn_U (k + 1) m)
  refine ⟨k + 1, C, d, ([48] : List Nat).length + (zn k m).length, hk, by rw [show ((k + 1 : Nat) : Int) = (k : Int) + 1 by omega], rfl, ?_, a, hp.trans (Plus.is z)⟩
  have := har.len
  simp
  omega
set_option maxRecDepth 100000 in
set_option maxHeartbeats 16000000 in
theorem digits_h (m q : Nat) (w : World) (hL : Hid (Lai w)) (fm : m ≤ 9007199254740991) (fq : q ≤ 100) (T : ByteArray) (hT : T.size ≤ 30) (xs : List Nat) (n : Nat) (hx : Hid (nats T = xs ∧ n = xs.length)) (fn : n ≤ 30) (hz : Hid (xs = zn 0 m)) (hd : Hid (∀ w, Calls Tryd.prog 26 #[.int .i64 (m : Int)] w fun e w' => e = .returned (.string T) ∧ Plus w w'))
    (hn0 : Hid (numU xs = ⟨0, m, true⟩)) (hn1 : Hid (numU (zn q m) = ⟨0, m, true⟩)) (r0 r1 : Int) (b0 b1 : Bool) (hk0 : Hid (KeyR (parS (plS xs).data.toList) r0 b0)) (hk1 : Hid (KeyR (parS (plS (zn q m)).data.toList) r1 b1))
    (hs : m ≤ 4294967294 ∧ r0 = m ∧ b0 = true ∨ 4294967294 < m ∧ b0 = false) (hq : q = 0 ∨ ((q : Int) == 0) = false ∧ b1 = false) :
    Calls Tryd.prog 11 #[.int .i64 m, .int .i64 q] w fun e w' => e = .returned (.bool true) ∧ Plus w w' := by
  obtain ⟨i0, hi, hz0, hz1, hz2⟩ := info_parts infoU16
  have HS := Lib.hid hs
  have HQ := Lib.hid hq
  clear hs hq
  go_enter Tryd.func11, Tryd.ntmps11
  go_wp2_with fail
  refine (first_c _ (hL.out.plus (by repeat' (first | exact Plus.refl _ | refine Plus.alloc ?_ _ | refine Plus.plus ?_ _ | refine Plus.drew ?_ | refine Plus.drewN ?_ _)))).mono ?_
  rintro e w1 ⟨rfl, ⟨y0, rfl⟩⟩
  go_wp2_with fail
  refine (hd.out _).mono ?_
  rintro e w1 ⟨rfl, ⟨y1, rfl⟩⟩
  go_wp2_with fail
  refine (ascii_n T (by omega) xs n hx _).mono ?_
  rintro e w1 ⟨C, d, rfl, ha, ⟨y2, rfl⟩⟩
  replace ha := Lib.hid ha
  go_wp2_with fail
  refine (copyUnits_c _ _ _ _ _ (ha.out.plus (by repeat' (first | exact Plus.refl _ | refine Plus.alloc ?_ _ | refine Plus.plus ?_ _ | refine Plus.drew ?_ | refine Plus.drewN ?_ _))) (by omega)).mono ?_
  rintro e w1 ⟨v, rfl, hv, ⟨y3, rfl⟩⟩
  obtain ⟨A1, c1, rfl, q1, q2, q3⟩ := rd_of_own hv
  have hv1 : Hid (Ar .u16 65536 (plus (plus (plus (plus w y0) y1) y2) y3) A1 xs n c1) := Lib.hid ⟨q3, hx.out.2, by have := hx.out.2; omega, q2, ha.out.bd⟩
  rw [← hx.out.2]
  clear hv q1 q2 q3
  go_wp2_with fail
  go_loopw [6, 7] (DgRel m q (plus (plus (plus (plus w y0) y1) y2) y3)) (fun _ s7 _ => ((q : Int) - intOf s7).toNat)
  case atStart => exact ⟨0, A1, c1, n, by omega, rfl, rfl, by omega, by rw [← hz.out]; exact hv1.out, Plus.refl _⟩
  case round =>
    obtain ⟨k, A, c, N, hk, rfl, rfl, hN, har, z0, rfl⟩ := hrel
    have HR := Lib.hid har
    clear har
    have hzl : (zn k m).length ≤ 200 := by have := HR.out.len; omega
    by_cases hlt : k < q
    · go_wp2_with (at_builtin; refine wpList_append_rd (by rfl) _ _ 23 rfl (plus (plus (plus (plus (plus w y0) y1) y2) y3) z0).heap.size 35 i0 (.int .u16 0) 2 .u16 Tryd.underlying23 hi hz0 hz1 hz2 (by decide) _ [48] (zn k m) rfl (own_lit (plus (plus (plus (plus (plus w y0) y1) y2) y3) z0) _ (by simp [size_plus])) _ _ _ rfl HR.out.len (HR.out.rd.plus (by repeat' (first | exact Plus.refl _ | refine Plus.alloc ?_ _ | refine Plus.plus ?_ _ | refine Plus.drew ?_ | refine Plus.drewN ?_ _))) (by simp; unfold maxLen; omega) (by simp; omega) (by simp [size_plus]) ?_; intro vv w1 hown1 hgr1; have HW2 := Lib.hid hown1; have HG2 := Lib.hid hgr1; clear hown1 hgr1)
      go_roundw
      case rel => exact DgRel.step hlt hN HR.out (Plus.is z0) (by simp [size_plus]) HW2.out HG2.out
      case measure => simp [intOf]; omega
    · obtain rfl : k = q := by omega
      clear hz hv1
      go_wp2_with fail
      refine (number_n7 hn0 _ (hL.out.plus (by repeat' (first | exact Plus.refl _ | refine Plus.alloc ?_ _ | refine Plus.plus ?_ _ | refine Plus.drew ?_ | refine Plus.drewN ?_ _))) (ha.out.plus (by repeat' (first | exact Plus.refl _ | refine Plus.alloc ?_ _ | refine Plus.plus ?_ _ | refine Plus.drew ?_ | refine Plus.drewN ?_ _))) (by omega)).mono ?_
      rintro e w1 ⟨rfl, ⟨y4, rfl⟩⟩
      go_wp2_with fail
      refine (number_n7 hn1 _ (hL.out.plus (by repeat' (first | exact Plus.refl _ | refine Plus.alloc ?_ _ | refine Plus.plus ?_ _ | refine Plus.drew ?_ | refine Plus.drewN ?_ _))) (HR.out.plus (by repeat' (first | exact Plus.refl _ | refine Plus.alloc ?_ _ | refine Plus.plus ?_ _ | refine Plus.drew ?_ | refine Plus.drewN ?_ _))) (by omega)).mono ?_
      rintro e w1 ⟨rfl, ⟨y5, rfl⟩⟩
      go_wp2_with fail
      refine (key_n hk0 _ (hL.out.plus (by repeat' (first | exact Plus.refl _ | refine Plus.alloc ?_ _ | refine Plus.plus ?_ _ | refine Plus.drew ?_ | refine Plus.drewN ?_ _))) (ha.out.plus (by repeat' (first | exact Plus.refl _ | refine Plus.alloc ?_ _ | refine Plus.plus ?_ _ | refine Plus.drew ?_ | refine Plus.drewN ?_ _))) (by omega)).mono ?_
      rintro e w1 ⟨rfl, ⟨y6, rfl⟩⟩
      go_wp2_with fail
      refine (key_n hk1 _ (hL.out.plus (by repeat' (first | exact Plus.refl _ | refine Plus.alloc ?_ _ | refine Plus.plus ?_ _ | refine Plus.drew ?_ | refine Plus.drewN ?_ _))) (HR.out.plus (by repeat' (first | exact Plus.refl _ | refine Plus.alloc ?_ _ | refine Plus.plus ?_ _ | refine Plus.drew ?_ | refine Plus.drewN ?_ _))) (by omega)).mono ?_
      rintro e w1 ⟨rfl, ⟨y7, rfl⟩⟩
      go_wp2_with fail
      refine (first_c _ (hL.out.plus (by repeat' (first | exact Plus.refl _ | refine Plus.alloc ?_ _ | refine Plus.plus ?_ _ | refine Plus.drew ?_ | refine Plus.drewN ?_ _)))).mono ?_
      rintro e w1 ⟨rfl, ⟨y8, rfl⟩⟩
      go_wp2_with fail
      refine (refNum_same 0 (m : Int) _).mono ?_
      rintro e w1 ⟨rfl, ⟨y9, rfl⟩⟩
      clear HR ha hn0 hn1 hk0 hk1 hd hL hx
      rcases HS.out with ⟨f1, rfl, rfl⟩ | ⟨f1, rfl⟩
      all_goals
        rcases HQ.out with rfl | ⟨g1, rfl⟩
        all_goals
          clear HS HQ
          go_wp2_with fail
          go_returns
          exact ⟨by first | rfl | simp, (by repeat' (first | exact Plus.refl _ | refine Plus.alloc ?_ _ | refine Plus.plus ?_ _ | refine Plus.drew ?_ | refine Plus.drewN ?_ _))⟩

set_option maxRecDepth 100000 in
set_option maxHeartbeats 4000000 in
theorem digits_few (p q : Int) (w : World) (hL : Hid (Lai w)) (hf : ¬ (0 ≤ p ∧ p ≤ 9007199254740991 ∧ 0 ≤ q ∧ q ≤ 100)) : Calls Tryd.prog 11 #[.int .i64 p, .int .i64 q] w fun e w' => e = .returned (.bool true) ∧ Plus w w' := by
  have h3 : p < 0 ∨ (0 ≤ p ∧ 9007199254740991 < p) ∨ (0 ≤ p ∧ p ≤ 9007199254740991 ∧ q < 0) ∨ (0 ≤ p ∧ p ≤ 9007199254740991 ∧ 0 ≤ q ∧ 100 < q) := by omega
  clear hf
  rcases h3 with f2 | ⟨f2, f3⟩ | ⟨f2, f3, f4⟩ | ⟨f2, f3, f4, f5⟩
  all_goals
    go_enter Tryd.func11, Tryd.ntmps11
    go_wp2_with fail
    refine (first_c _ (hL.out.plus (by repeat' (first | exact Plus.refl _ | refine Plus.alloc ?_ _ | refine Plus.plus ?_ _ | refine Plus.drew ?_ | refine Plus.drewN ?_ _)))).mono ?_
    rintro e w1 ⟨rfl, ⟨y0, rfl⟩⟩
    go_wp2_with fail
    refine (first_c _ (hL.out.plus (by repeat' (first | exact Plus.refl _ | refine Plus.alloc ?_ _ | refine Plus.plus ?_ _ | refine Plus.drew ?_ | refine Plus.drewN ?_ _)))).mono ?_
    rintro e w1 ⟨rfl, ⟨y1, rfl⟩⟩
    go_wp2_with fail
    go_returns
    exact ⟨rfl, (by repeat' (first | exact Plus.refl _ | refine Plus.alloc ?_ _ | refine Plus.plus ?_ _ | refine Plus.drew ?_ | refine Plus.drewN ?_ _))⟩

theorem digits_w (p q : Int) (w : World) (hL : Lai w) :
    Calls Tryd.prog 11 #[.int .i64 p, .int .i64 q] w fun e w' => e = .returned (.bool true) ∧ Plus w w' := by
  by_cases hf : 0 ≤ p ∧ p ≤ 9007199254740991 ∧ 0 ≤ q ∧ q ≤ 100
  · obtain ⟨f1, f2, f3, f4⟩ := hf
    obtain ⟨m, rfl⟩ : ∃ i : Nat, p = i := ⟨p.toNat, by omega⟩
    obtain ⟨j, rfl⟩ : ∃ j : Nat, q = j := ⟨q.toNat, by omega⟩
    have hm : m ≤ 9007199254740991 := by omega
    have hl := dec_le 15 m (by omega)
    have hzl : (zn 0 m).length = (Lib.decDigits m).length := by unfold zn; simp
    have hs : m ≤ 4294967294 ∧ (if m ≤ 4294967294 then (m : Int) else 0) = m ∧ decide (m ≤ 4294967294) = true ∨ 4294967294 < m ∧ decide (m ≤ 4294967294) = false := by
      by_cases h : m ≤ 4294967294
      · exact .inl ⟨h, if_pos h, by simpa using h⟩
      · exact .inr ⟨by omega, by simpa using h⟩
    have hT : (⟨(Lib.decDigits m).toArray⟩ : ByteArray).size ≤ 30 := by
      show (Lib.decDigits m).toArray.size ≤ 30
      simp
      omega
    rcases j with _ | j
    · exact digits_h m 0 w (Lib.hid hL) hm (by omega) ⟨(Lib.decDigits m).toArray⟩ hT (zn 0 m) _ (Lib.hid ⟨nats_dd m, rfl⟩) (by omega) (Lib.hid rfl) (Lib.hid (dec_c m (by omega))) (Lib.hid (num_zn 0 hm)) (Lib.hid (num_zn 0 hm)) _ _ _ _ (Lib.hid (key_zn0 hm)) (Lib.hid (key_zn0 hm)) hs (.inl rfl)
    · exact digits_h m (j + 1) w (Lib.hid hL) hm (by omega) ⟨(Lib.decDigits m).toArray⟩ hT (zn 0 m) _ (Lib.hid ⟨nats_dd m, rfl⟩) (by omega) (Lib.hid rfl) (Lib.hid (dec_c m (by omega))) (Lib.hid (num_zn 0 hm)) (Lib.hid (num_zn (j + 1) hm)) _ _ _ _ (Lib.hid (key_zn0 hm)) (Lib.hid (key_zn j)) hs (.inr ⟨by simp; omega, rfl⟩)
  · exact digits_few p q w (Lib.hid hL) hf
end Go.Proofs.YtlbjjkiflcjkgaaDoor
