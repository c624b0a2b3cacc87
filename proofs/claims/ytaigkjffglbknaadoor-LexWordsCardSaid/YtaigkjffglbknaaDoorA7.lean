/- Contracts: comments, what is skipped. -/
import Derived.Test.YtaigkjffglbknaaDoorA6
namespace Go.Proofs.YtaigkjffglbknaaDoor
open Go.RowKit


def BkRel (xs : List Nat) (s3 : Value) : Prop := ∃ i m : Nat, s3 = .int .i64 i ∧ blkM xs 2 xs.length = blkM xs i m ∧ xs.length ≤ i + m ∧ i ≤ xs.length + 2
theorem nats_lit (l : List UInt8) : nats ⟨l.toArray⟩ = l.map UInt8.toNat := by simp [nats]
set_option maxRecDepth 100000 in
set_option maxHeartbeats 2000000 in
theorem blk_c (A : Option Addr) (xs : List Nat) (n c : Nat) (w : World) (h : Ar .u16 65536 w A xs n c) (hn : n ≤ 140737488355328) :
    Calls Tryd.prog 44 #[.slice A n c] w fun e w' => e = .returned (.int .i64 (blkM xs 2 xs.length)) ∧ Plus w w' := by
  have H := Lib.hid h
  obtain ⟨hrd, hlen, hcap, hmax, hbd⟩ := h
  subst hlen
  go_enter Tryd.func44, Tryd.ntmps44
  go_wp2
  go_loopw [3] (fun s3 wr => BkRel xs s3 ∧ Plus w wr) (fun s3 _ => ((xs.length : Int) + 2 - intOf s3).toNat)
  case atStart => exact ⟨⟨2, xs.length, rfl, rfl, by omega, by omega⟩, Plus.refl _⟩
  case round =>
    obtain ⟨⟨i, m, rfl, he, hm, hi2⟩, hp⟩ := hrel
    have HE := Lib.hid he
    have HP := Lib.hid hp
    clear he hp
    by_cases hlt : i < xs.length
    · obtain ⟨g, o, rfl, hg, hat⟩ := hrd.at_ hlt
      have hadd := add_addr g o i
      have HAT := Lib.hid hat
      obtain ⟨f, rfl⟩ : ∃ f, m = f + 1 := ⟨m - 1, by omega⟩
      have HD := Lib.hid ((H.out.dr (Nat.le_of_lt hlt)).plus HP.out)
      clear hat
      obtain ⟨b, hb⟩ : ∃ b, begB (xs.drop i) (nats ⟨#[42, 47]⟩) = b := ⟨_, rfl⟩
      have HB := Lib.hid hb
      clear hb
      cases b
      · have HE2 : Hid (blkM xs 2 xs.length = blkM xs (i + 1) f) := Lib.hid (by
          rw [HE.out]
          have q := HB.out
          rw [nats_lit] at q
          rw [blkM, if_pos hlt]
          exact if_neg (by rw [Bool.not_eq_true]; exact q))
        go_wp2_with (go_at_call_of 40 (Value.string ⟨#[42, 47]⟩); (with_reducible refine (begins_c _ _ _ _ ⟨#[42, 47]⟩ _ HD.out (by decide)).mono ?_); rintro e w1 ⟨rfl, ⟨x1, rfl⟩⟩; rw [HB.out])
        go_roundw
        case rel => exact ⟨⟨i + 1, f, by rw [show ((i + 1 : Nat) : Int) = (i : Int) + 1 by omega], HE2.out, by omega, by omega⟩, HP.out.plus _⟩
        case measure => simp [intOf]; omega
      · have HE2 : Hid (blkM xs 2 xs.length = i + 2) := Lib.hid (by
          rw [HE.out]
          have q := HB.out
          rw [nats_lit] at q
          rw [blkM, if_pos hlt]
          exact if_pos q)
        go_wp2_with (go_at_call_of 40 (Value.string ⟨#[42, 47]⟩); (with_reducible refine (begins_c _ _ _ _ ⟨#[42, 47]⟩ _ HD.out (by decide)).mono ?_); rintro e w1 ⟨rfl, ⟨x1, rfl⟩⟩; rw [HB.out])
        go_ret
        exact ⟨by rw [HE2.out]; rfl, HP.out.plus _⟩
    · have HE2 : Hid (blkM xs 2 xs.length = 0) := Lib.hid (by
        rw [HE.out]
        cases m with
        | zero => rfl
        | succ m => rw [blkM, if_neg hlt])
      go_wp2
      go_ret
      exact ⟨by rw [HE2.out]; rfl, HP.out⟩
theorem blk_le (xs : List Nat) (i f : Nat) (hi : 1 ≤ i) : blkM xs i f ≤ xs.length := by
  induction f generalizing i with
  | zero => exact Nat.zero_le _
  | succ f ih =>
    rw [blkM]
    by_cases h : i < xs.length
    · rw [if_pos h]
      by_cases b : begB (xs.drop i) [42, 47] = true
      · rw [if_pos b]
        unfold begB at b
        have e := congrArg List.length (of_decide_eq_true b)
        rw [List.length_take, List.length_drop] at e
        simp only [List.length_cons, List.length_nil] at e
        omega
      · rw [if_neg b]; exact ih (i + 1) (by omega)
    · rw [if_neg h]; exact Nat.zero_le _

set_option maxRecDepth 100000 in
set_option maxHeartbeats 4000000 in
theorem skp_c (A : Option Addr) (xs : List Nat) (n c : Nat) (w : World) (h : Ar .u16 65536 w A xs n c) (hn : n ≤ 140737488355328) (h0 : 0 < n) :
    Calls Tryd.prog 31 #[.slice A n c] w fun e w' => e = .returned (cmtV (skpM xs)) ∧ Plus w w' := by
  have H := Lib.hid h
  obtain ⟨hrd, hlen, hcap, hmax, hbd⟩ := h
  subst hlen
  obtain ⟨g, o, rfl, hg, hat⟩ := hrd.at_ h0
  have hcell : w.cell? ⟨g, o, none⟩ = _ := hat 0 h0
  obtain ⟨v, hv⟩ : ∃ v, xs.getD 0 0 = v := ⟨_, rfl⟩
  rw [hv] at hcell
  have hvb : v < 65536 := by rw [← hv]; exact hbd _ (getD_mem h0)
  have HV : Hid (uAt xs 0 = v) := Lib.hid hv
  have HAT := Lib.hid hat
  have HRD := Lib.hid hrd
  have HBD := Lib.hid hbd
  clear hat hv hrd hbd
  obtain ⟨b1, hb1⟩ : ∃ b, isBlk v = b := ⟨_, rfl⟩
  have B1 := Lib.hid hb1
  obtain ⟨b2, hb2⟩ : ∃ b, isEnd v = b := ⟨_, rfl⟩
  have B2 := Lib.hid hb2
  obtain ⟨b3, hb3⟩ : ∃ b, begB xs (nats ⟨#[47, 47]⟩) = b := ⟨_, rfl⟩
  have B3 := Lib.hid hb3
  obtain ⟨b4, hb4⟩ : ∃ b, begB xs (nats ⟨#[47, 42]⟩) = b := ⟨_, rfl⟩
  have B4 := Lib.hid hb4
  have hs1 : spanL inLin xs ≤ xs.length := span_le _ _
  have hs2 : blkM xs 2 xs.length ≤ xs.length := blk_le _ _ _ (by decide)
  have HM : Hid (skpM xs = if b1 then ⟨1, false, 0⟩ else if b2 then ⟨1, true, 0⟩ else if b3 then cmtM (xs.take (spanL inLin xs)) else if b4 then cmtM (xs.take (blkM xs 2 xs.length)) else ⟨0, false, 0⟩) := Lib.hid (by
    unfold skpM
    rw [HV.out, hb1, hb2]
    rw [nats_lit] at hb3 hb4
    have e3 : begB xs [47, 47] = b3 := hb3
    have e4 : begB xs [47, 42] = b4 := hb4
    rw [e3, e4])
  clear hb1 hb2 hb3 hb4
  obtain ⟨S1, hS1⟩ : ∃ S, spanL inLin xs = S := ⟨_, rfl⟩
  rw [hS1] at hs1
  have HS1 := Lib.hid hS1
  obtain ⟨S2, hS2⟩ : ∃ S, blkM xs 2 xs.length = S := ⟨_, rfl⟩
  rw [hS2] at hs2
  have HS2 := Lib.hid hS2
  clear hS1 hS2
  cases b1
  · cases b2
    · cases b3
      · cases b4
        · go_enter Tryd.func31, Tryd.ntmps31
          go_wp2_with (first | (go_at_call 38; (with_reducible refine (isBlk_c v hvb _).mono ?_); rintro e w1 ⟨rfl, rfl⟩; rw [B1.out]) | (go_at_call 39; (with_reducible refine (isEnd_c v hvb _).mono ?_); rintro e w1 ⟨rfl, rfl⟩; rw [B2.out]) | (go_at_call_of 40 (Value.string ⟨#[47, 47]⟩); (with_reducible refine (begins_c _ _ _ _ ⟨#[47, 47]⟩ _ (H.out.plus (by repeat' (first | exact Plus.refl _ | refine Plus.alloc ?_ _ | refine Plus.plus ?_ _ | refine Plus.drew ?_ | refine Plus.drewN ?_ _))) (by decide)).mono ?_); rintro e w1 ⟨rfl, ⟨x1, rfl⟩⟩; rw [B3.out]) | (go_at_call_of 40 (Value.string ⟨#[47, 42]⟩); (with_reducible refine (begins_c _ _ _ _ ⟨#[47, 42]⟩ _ (H.out.plus (by repeat' (first | exact Plus.refl _ | refine Plus.alloc ?_ _ | refine Plus.plus ?_ _ | refine Plus.drew ?_ | refine Plus.drewN ?_ _))) (by decide)).mono ?_); rintro e w1 ⟨rfl, ⟨x1, rfl⟩⟩; rw [B4.out]) | (go_at_call 42; (with_reducible refine (span_line _ _ _ _ _ (H.out.plus (by repeat' (first | exact Plus.refl _ | refine Plus.alloc ?_ _ | refine Plus.plus ?_ _ | refine Plus.drew ?_ | refine Plus.drewN ?_ _)))).mono ?_); rintro e w1 ⟨rfl, rfl⟩; rw [HS1.out]) | (go_at_call 44; (with_reducible refine (blk_c _ _ _ _ _ (H.out.plus (by repeat' (first | exact Plus.refl _ | refine Plus.alloc ?_ _ | refine Plus.plus ?_ _ | refine Plus.drew ?_ | refine Plus.drewN ?_ _))) hn).mono ?_); rintro e w1 ⟨rfl, ⟨x2, rfl⟩⟩; rw [HS2.out]) | (go_at_call 41; (with_reducible refine (cmt_c _ (xs.take S1) _ _ _ ((H.out.tk hs1).plus (by repeat' (first | exact Plus.refl _ | refine Plus.alloc ?_ _ | refine Plus.plus ?_ _ | refine Plus.drew ?_ | refine Plus.drewN ?_ _)))).mono ?_); rintro e w1 ⟨rfl, rfl⟩; unfold cmtV) | (go_at_call 41; (with_reducible refine (cmt_c _ (xs.take S2) _ _ _ ((H.out.tk hs2).plus (by repeat' (first | exact Plus.refl _ | refine Plus.alloc ?_ _ | refine Plus.plus ?_ _ | refine Plus.drew ?_ | refine Plus.drewN ?_ _)))).mono ?_); rintro e w1 ⟨rfl, rfl⟩; unfold cmtV))
          go_ret3
          exact ⟨by rw [HM.out]; rfl, (by repeat' (first | exact Plus.refl _ | refine Plus.alloc ?_ _ | refine Plus.plus ?_ _ | refine Plus.drew ?_ | refine Plus.drewN ?_ _))⟩
        · go_enter Tryd.func31, Tryd.ntmps31
          go_wp2_with (first | (go_at_call 38; (with_reducible refine (isBlk_c v hvb _).mono ?_); rintro e w1 ⟨rfl, rfl⟩; rw [B1.out]) | (go_at_call 39; (with_reducible refine (isEnd_c v hvb _).mono ?_); rintro e w1 ⟨rfl, rfl⟩; rw [B2.out]) | (go_at_call_of 40 (Value.string ⟨#[47, 47]⟩); (with_reducible refine (begins_c _ _ _ _ ⟨#[47, 47]⟩ _ (H.out.plus (by repeat' (first | exact Plus.refl _ | refine Plus.alloc ?_ _ | refine Plus.plus ?_ _ | refine Plus.drew ?_ | refine Plus.drewN ?_ _))) (by decide)).mono ?_); rintro e w1 ⟨rfl, ⟨x1, rfl⟩⟩; rw [B3.out]) | (go_at_call_of 40 (Value.string ⟨#[47, 42]⟩); (with_reducible refine (begins_c _ _ _ _ ⟨#[47, 42]⟩ _ (H.out.plus (by repeat' (first | exact Plus.refl _ | refine Plus.alloc ?_ _ | refine Plus.plus ?_ _ | refine Plus.drew ?_ | refine Plus.drewN ?_ _))) (by decide)).mono ?_); rintro e w1 ⟨rfl, ⟨x1, rfl⟩⟩; rw [B4.out]) | (go_at_call 42; (with_reducible refine (span_line _ _ _ _ _ (H.out.plus (by repeat' (first | exact Plus.refl _ | refine Plus.alloc ?_ _ | refine Plus.plus ?_ _ | refine Plus.drew ?_ | refine Plus.drewN ?_ _)))).mono ?_); rintro e w1 ⟨rfl, rfl⟩; rw [HS1.out]) | (go_at_call 44; (with_reducible refine (blk_c _ _ _ _ _ (H.out.plus (by repeat' (first | exact Plus.refl _ | refine Plus.alloc ?_ _ | refine Plus.plus ?_ _ | refine Plus.drew ?_ | refine Plus.drewN ?_ _))) hn).mono ?_); rintro e w1 ⟨rfl, ⟨x2, rfl⟩⟩; rw [HS2.out]) | (go_at_call 41; (with_reducible refine (cmt_c _ (xs.take S1) _ _ _ ((H.out.tk hs1).plus (by repeat' (first | exact Plus.refl _ | refine Plus.alloc ?_ _ | refine Plus.plus ?_ _ | refine Plus.drew ?_ | refine Plus.drewN ?_ _)))).mono ?_); rintro e w1 ⟨rfl, rfl⟩; unfold cmtV) | (go_at_call 41; (with_reducible refine (cmt_c _ (xs.take S2) _ _ _ ((H.out.tk hs2).plus (by repeat' (first | exact Plus.refl _ | refine Plus.alloc ?_ _ | refine Plus.plus ?_ _ | refine Plus.drew ?_ | refine Plus.drewN ?_ _)))).mono ?_); rintro e w1 ⟨rfl, rfl⟩; unfold cmtV))
          go_ret3
          exact ⟨by rw [HM.out, HS2.out]; rfl, (by repeat' (first | exact Plus.refl _ | refine Plus.alloc ?_ _ | refine Plus.plus ?_ _ | refine Plus.drew ?_ | refine Plus.drewN ?_ _))⟩
      · go_enter Tryd.func31, Tryd.ntmps31
        go_wp2_with (first | (go_at_call 38; (with_reducible refine (isBlk_c v hvb _).mono ?_); rintro e w1 ⟨rfl, rfl⟩; rw [B1.out]) | (go_at_call 39; (with_reducible refine (isEnd_c v hvb _).mono ?_); rintro e w1 ⟨rfl, rfl⟩; rw [B2.out]) | (go_at_call_of 40 (Value.string ⟨#[47, 47]⟩); (with_reducible refine (begins_c _ _ _ _ ⟨#[47, 47]⟩ _ (H.out.plus (by repeat' (first | exact Plus.refl _ | refine Plus.alloc ?_ _ | refine Plus.plus ?_ _ | refine Plus.drew ?_ | refine Plus.drewN ?_ _))) (by decide)).mono ?_); rintro e w1 ⟨rfl, ⟨x1, rfl⟩⟩; rw [B3.out]) | (go_at_call_of 40 (Value.string ⟨#[47, 42]⟩); (with_reducible refine (begins_c _ _ _ _ ⟨#[47, 42]⟩ _ (H.out.plus (by repeat' (first | exact Plus.refl _ | refine Plus.alloc ?_ _ | refine Plus.plus ?_ _ | refine Plus.drew ?_ | refine Plus.drewN ?_ _))) (by decide)).mono ?_); rintro e w1 ⟨rfl, ⟨x1, rfl⟩⟩; rw [B4.out]) | (go_at_call 42; (with_reducible refine (span_line _ _ _ _ _ (H.out.plus (by repeat' (first | exact Plus.refl _ | refine Plus.alloc ?_ _ | refine Plus.plus ?_ _ | refine Plus.drew ?_ | refine Plus.drewN ?_ _)))).mono ?_); rintro e w1 ⟨rfl, rfl⟩; rw [HS1.out]) | (go_at_call 44; (with_reducible refine (blk_c _ _ _ _ _ (H.out.plus (by repeat' (first | exact Plus.refl _ | refine Plus.alloc ?_ _ | refine Plus.plus ?_ _ | refine Plus.drew ?_ | refine Plus.drewN ?_ _))) hn).mono ?_); rintro e w1 ⟨rfl, ⟨x2, rfl⟩⟩; rw [HS2.out]) | (go_at_call 41; (with_reducible refine (cmt_c _ (xs.take S1) _ _ _ ((H.out.tk hs1).plus (by repeat' (first | exact Plus.refl _ | refine Plus.alloc ?_ _ | refine Plus.plus ?_ _ | refine Plus.drew ?_ | refine Plus.drewN ?_ _)))).mono ?_); rintro e w1 ⟨rfl, rfl⟩; unfold cmtV) | (go_at_call 41; (with_reducible refine (cmt_c _ (xs.take S2) _ _ _ ((H.out.tk hs2).plus (by repeat' (first | exact Plus.refl _ | refine Plus.alloc ?_ _ | refine Plus.plus ?_ _ | refine Plus.drew ?_ | refine Plus.drewN ?_ _)))).mono ?_); rintro e w1 ⟨rfl, rfl⟩; unfold cmtV))
        go_ret3
        exact ⟨by rw [HM.out, HS1.out]; rfl, (by repeat' (first | exact Plus.refl _ | refine Plus.alloc ?_ _ | refine Plus.plus ?_ _ | refine Plus.drew ?_ | refine Plus.drewN ?_ _))⟩
    · go_enter Tryd.func31, Tryd.ntmps31
      go_wp2_with (first | (go_at_call 38; (with_reducible refine (isBlk_c v hvb _).mono ?_); rintro e w1 ⟨rfl, rfl⟩; rw [B1.out]) | (go_at_call 39; (with_reducible refine (isEnd_c v hvb _).mono ?_); rintro e w1 ⟨rfl, rfl⟩; rw [B2.out]) | (go_at_call_of 40 (Value.string ⟨#[47, 47]⟩); (with_reducible refine (begins_c _ _ _ _ ⟨#[47, 47]⟩ _ (H.out.plus (by repeat' (first | exact Plus.refl _ | refine Plus.alloc ?_ _ | refine Plus.plus ?_ _ | refine Plus.drew ?_ | refine Plus.drewN ?_ _))) (by decide)).mono ?_); rintro e w1 ⟨rfl, ⟨x1, rfl⟩⟩; rw [B3.out]) | (go_at_call_of 40 (Value.string ⟨#[47, 42]⟩); (with_reducible refine (begins_c _ _ _ _ ⟨#[47, 42]⟩ _ (H.out.plus (by repeat' (first | exact Plus.refl _ | refine Plus.alloc ?_ _ | refine Plus.plus ?_ _ | refine Plus.drew ?_ | refine Plus.drewN ?_ _))) (by decide)).mono ?_); rintro e w1 ⟨rfl, ⟨x1, rfl⟩⟩; rw [B4.out]) | (go_at_call 42; (with_reducible refine (span_line _ _ _ _ _ (H.out.plus (by repeat' (first | exact Plus.refl _ | refine Plus.alloc ?_ _ | refine Plus.plus ?_ _ | refine Plus.drew ?_ | refine Plus.drewN ?_ _)))).mono ?_); rintro e w1 ⟨rfl, rfl⟩; rw [HS1.out]) | (go_at_call 44; (with_reducible refine (blk_c _ _ _ _ _ (H.out.plus (by repeat' (first | exact Plus.refl _ | refine Plus.alloc ?_ _ | refine Plus.plus ?_ _ | refine Plus.drew ?_ | refine Plus.drewN ?_ _))) hn).mono ?_); rintro e w1 ⟨rfl, ⟨x2, rfl⟩⟩; rw [HS2.out]) | (go_at_call 41; (with_reducible refine (cmt_c _ (xs.take S1) _ _ _ ((H.out.tk hs1).plus (by repeat' (first | exact Plus.refl _ | refine Plus.alloc ?_ _ | refine Plus.plus ?_ _ | refine Plus.drew ?_ | refine Plus.drewN ?_ _)))).mono ?_); rintro e w1 ⟨rfl, rfl⟩; unfold cmtV) | (go_at_call 41; (with_reducible refine (cmt_c _ (xs.take S2) _ _ _ ((H.out.tk hs2).plus (by repeat' (first | exact Plus.refl _ | refine Plus.alloc ?_ _ | refine Plus.plus ?_ _ | refine Plus.drew ?_ | refine Plus.drewN ?_ _)))).mono ?_); rintro e w1 ⟨rfl, rfl⟩; unfold cmtV))
      go_ret3
      exact ⟨by rw [HM.out]; rfl, (by repeat' (first | exact Plus.refl _ | refine Plus.alloc ?_ _ | refine Plus.plus ?_ _ | refine Plus.drew ?_ | refine Plus.drewN ?_ _))⟩
  · go_enter Tryd.func31, Tryd.ntmps31
    go_wp2_with (first | (go_at_call 38; (with_reducible refine (isBlk_c v hvb _).mono ?_); rintro e w1 ⟨rfl, rfl⟩; rw [B1.out]) | (go_at_call 39; (with_reducible refine (isEnd_c v hvb _).mono ?_); rintro e w1 ⟨rfl, rfl⟩; rw [B2.out]) | (go_at_call_of 40 (Value.string ⟨#[47, 47]⟩); (with_reducible refine (begins_c _ _ _ _ ⟨#[47, 47]⟩ _ (H.out.plus (by repeat' (first | exact Plus.refl _ | refine Plus.alloc ?_ _ | refine Plus.plus ?_ _ | refine Plus.drew ?_ | refine Plus.drewN ?_ _))) (by decide)).mono ?_); rintro e w1 ⟨rfl, ⟨x1, rfl⟩⟩; rw [B3.out]) | (go_at_call_of 40 (Value.string ⟨#[47, 42]⟩); (with_reducible refine (begins_c _ _ _ _ ⟨#[47, 42]⟩ _ (H.out.plus (by repeat' (first | exact Plus.refl _ | refine Plus.alloc ?_ _ | refine Plus.plus ?_ _ | refine Plus.drew ?_ | refine Plus.drewN ?_ _))) (by decide)).mono ?_); rintro e w1 ⟨rfl, ⟨x1, rfl⟩⟩; rw [B4.out]) | (go_at_call 42; (with_reducible refine (span_line _ _ _ _ _ (H.out.plus (by repeat' (first | exact Plus.refl _ | refine Plus.alloc ?_ _ | refine Plus.plus ?_ _ | refine Plus.drew ?_ | refine Plus.drewN ?_ _)))).mono ?_); rintro e w1 ⟨rfl, rfl⟩; rw [HS1.out]) | (go_at_call 44; (with_reducible refine (blk_c _ _ _ _ _ (H.out.plus (by repeat' (first | exact Plus.refl _ | refine Plus.alloc ?_ _ | refine Plus.plus ?_ _ | refine Plus.drew ?_ | refine Plus.drewN ?_ _))) hn).mono ?_); rintro e w1 ⟨rfl, ⟨x2, rfl⟩⟩; rw [HS2.out]) | (go_at_call 41; (with_reducible refine (cmt_c _ (xs.take S1) _ _ _ ((H.out.tk hs1).plus (by repeat' (first | exact Plus.refl _ | refine Plus.alloc ?_ _ | refine Plus.plus ?_ _ | refine Plus.drew ?_ | refine Plus.drewN ?_ _)))).mono ?_); rintro e w1 ⟨rfl, rfl⟩; unfold cmtV) | (go_at_call 41; (with_reducible refine (cmt_c _ (xs.take S2) _ _ _ ((H.out.tk hs2).plus (by repeat' (first | exact Plus.refl _ | refine Plus.alloc ?_ _ | refine Plus.plus ?_ _ | refine Plus.drew ?_ | refine Plus.drewN ?_ _)))).mono ?_); rintro e w1 ⟨rfl, rfl⟩; unfold cmtV))
    go_ret3
    exact ⟨by rw [HM.out]; rfl, (by repeat' (first | exact Plus.refl _ | refine Plus.alloc ?_ _ | refine Plus.plus ?_ _ | refine Plus.drew ?_ | refine Plus.drewN ?_ _))⟩
end Go.Proofs.YtaigkjffglbknaaDoor
