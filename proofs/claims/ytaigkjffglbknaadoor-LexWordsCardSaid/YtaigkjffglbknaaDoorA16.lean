/- Contracts: the longest sign. -/
import Derived.Test.YtaigkjffglbknaaDoorA15
namespace Go.Proofs.YtaigkjffglbknaaDoor
open Go.RowKit


def PuRel (xs : List Nat) (s3 : Value) : Prop := ∃ k : Nat, s3 = .int .i64 k ∧ k ≤ min 4 xs.length ∧ punM xs (min 4 xs.length) = punM xs k
set_option maxRecDepth 100000 in
set_option maxHeartbeats 8000000 in
theorem pun_c (A : Option Addr) (xs : List Nat) (n c : Nat) (w : World) (h : Ar .u16 65536 w A xs n c) (hn : n ≤ 140737488355) :
    Calls Tryd.prog 51 #[.slice A n c] w fun e w' => e = .returned (.string (punM xs (min 4 xs.length))) ∧ Plus w w' := by
  have H := Lib.hid h
  obtain ⟨hrd, hlen, hcap, hmax, hbd⟩ := h
  subst hlen
  clear hrd hbd
  obtain ⟨M, hM⟩ : ∃ M, min 4 xs.length = M := ⟨_, rfl⟩
  have hM2 : M ≤ xs.length := by omega
  have hMi : min (4 : Int) (xs.length : Int) = (M : Int) := by omega
  go_enter Tryd.func51, Tryd.ntmps51
  go_wp2
  clear hMi
  go_loopw [3] (fun s3 wr => PuRel xs s3 ∧ Plus w wr) (fun s3 _ => (intOf s3).toNat)
  case atStart => exact ⟨⟨M, rfl, by omega, by rw [hM]⟩, Plus.refl _⟩
  case round =>
    obtain ⟨⟨k, rfl, hk, he⟩, hp⟩ := hrel
    have HE := Lib.hid he
    have HP := Lib.hid hp
    have hkM : k ≤ M := by omega
    clear he hp hk
    cases k with
    | zero =>
      have HR : Hid (punM xs (min 4 xs.length) = ByteArray.empty) := Lib.hid (by rw [HE.out]; rfl)
      go_wp2
      go_ret
      exact ⟨by rw [HR.out]; rfl, HP.out⟩
    | succ k =>
      have hk1 : k + 1 ≤ xs.length := by omega
      obtain ⟨z, hz⟩ : ∃ z : Int, z = ((k + 1 : Nat) : Int) := ⟨_, rfl⟩
      obtain ⟨d, hd⟩ : ∃ d, plS (xs.take (k + 1)) = d := ⟨_, rfl⟩
      have HD := Lib.hid hd
      obtain ⟨v, hv⟩ : ∃ v, signN d.data.toList = v := ⟨_, rfl⟩
      have HS := Lib.hid hv
      have HR : Hid (punM xs (min 4 xs.length) = if v = 0 then punM xs k else if d.data.toList = [63, 46] ∧ isDig (uAt xs (k + 1)) = true then ⟨#[63]⟩ else d) := Lib.hid (by rw [HE.out, punM, hd, hv])
      clear hd hv hz HE
      by_cases h0 : v = 0
      · have b1 : ((v : Int) == 0) = true := by simp; omega
        have HE2 : Hid (punM xs (min 4 xs.length) = punM xs k) := Lib.hid (by rw [HR.out, if_pos h0])
        clear h0 HR
        go_wp2_with (first | (go_at_call 56; (with_reducible refine (plain_c _ (xs.take (k + 1)) _ _ _ ((H.out.tk hk1).plus (HP.out.trans (by repeat' (first | exact Plus.refl _ | refine Plus.alloc ?_ _ | refine Plus.plus ?_ _ | refine Plus.drew ?_ | refine Plus.drewN ?_ _)))) (by omega)).mono ?_); rintro e w1 ⟨rfl, ⟨x2, rfl⟩⟩; rw [HD.out]) | (go_at_call 14; (with_reducible refine (sign_c _ _).mono ?_); rintro e w1 ⟨rfl, rfl⟩; rw [HS.out]))
        go_roundw
        case rel => exact ⟨⟨k, by congr 1 <;> omega, by omega, HE2.out⟩, HP.out.trans (by repeat' (first | exact Plus.refl _ | refine Plus.alloc ?_ _ | refine Plus.plus ?_ _ | refine Plus.drew ?_ | refine Plus.drewN ?_ _))⟩
        case measure => simp [intOf]
      · have b1 : ((v : Int) == 0) = false := by simp; omega
        by_cases e1 : (d.toList == [63, 46]) = true
        · obtain ⟨nx, hx⟩ : ∃ nx, uAt xs (k + 1) = nx := ⟨_, rfl⟩
          have HX := Lib.hid hx
          have hxb : nx < 65536 := by rw [← hx]; exact uAt_bd H.out _
          obtain ⟨b, hb⟩ : ∃ b, isDig nx = b := ⟨_, rfl⟩
          have HG := Lib.hid hb
          have hd2 : d.data.toList = [63, 46] := by rw [data_eq] at e1; exact of_decide_eq_true e1
          have HR2 : Hid (punM xs (min 4 xs.length) = if b = true then ⟨#[63]⟩ else d) := Lib.hid (by rw [HR.out, if_neg h0, hx, hb]; simp [hd2])
          clear HR h0 hx hb hd2
          cases b
          · have HR3 : Hid (punM xs (min 4 xs.length) = d) := Lib.hid (by rw [HR2.out]; rfl)
            clear HR2
            go_wp2_with (first | (go_at_call 56; (with_reducible refine (plain_c _ (xs.take (k + 1)) _ _ _ ((H.out.tk hk1).plus (HP.out.trans (by repeat' (first | exact Plus.refl _ | refine Plus.alloc ?_ _ | refine Plus.plus ?_ _ | refine Plus.drew ?_ | refine Plus.drewN ?_ _)))) (by omega)).mono ?_); rintro e w1 ⟨rfl, ⟨x2, rfl⟩⟩; rw [HD.out]) | (go_at_call 14; (with_reducible refine (sign_c _ _).mono ?_); rintro e w1 ⟨rfl, rfl⟩; rw [HS.out]) | (go_at_call 49; (with_reducible refine (unitAt_j _ _ _ _ (k + 1) _ _ (H.out.plus (HP.out.trans (by repeat' (first | exact Plus.refl _ | refine Plus.alloc ?_ _ | refine Plus.plus ?_ _ | refine Plus.drew ?_ | refine Plus.drewN ?_ _)))) (by omega) (by omega)).mono ?_); rintro e w1 ⟨rfl, rfl⟩; rw [HX.out]) | (go_at_call 28; (with_reducible refine (isDig_c nx hxb _).mono ?_); rintro e w1 ⟨rfl, rfl⟩; rw [HG.out]))
            go_ret
            exact ⟨by rw [HR3.out]; rfl, HP.out.trans (by repeat' (first | exact Plus.refl _ | refine Plus.alloc ?_ _ | refine Plus.plus ?_ _ | refine Plus.drew ?_ | refine Plus.drewN ?_ _))⟩
          · have HR3 : Hid (punM xs (min 4 xs.length) = ⟨#[63]⟩) := Lib.hid (by rw [HR2.out]; rfl)
            clear HR2
            go_wp2_with (first | (go_at_call 56; (with_reducible refine (plain_c _ (xs.take (k + 1)) _ _ _ ((H.out.tk hk1).plus (HP.out.trans (by repeat' (first | exact Plus.refl _ | refine Plus.alloc ?_ _ | refine Plus.plus ?_ _ | refine Plus.drew ?_ | refine Plus.drewN ?_ _)))) (by omega)).mono ?_); rintro e w1 ⟨rfl, ⟨x2, rfl⟩⟩; rw [HD.out]) | (go_at_call 14; (with_reducible refine (sign_c _ _).mono ?_); rintro e w1 ⟨rfl, rfl⟩; rw [HS.out]) | (go_at_call 49; (with_reducible refine (unitAt_j _ _ _ _ (k + 1) _ _ (H.out.plus (HP.out.trans (by repeat' (first | exact Plus.refl _ | refine Plus.alloc ?_ _ | refine Plus.plus ?_ _ | refine Plus.drew ?_ | refine Plus.drewN ?_ _)))) (by omega) (by omega)).mono ?_); rintro e w1 ⟨rfl, rfl⟩; rw [HX.out]) | (go_at_call 28; (with_reducible refine (isDig_c nx hxb _).mono ?_); rintro e w1 ⟨rfl, rfl⟩; rw [HG.out]))
            go_ret
            exact ⟨by rw [HR3.out]; rfl, HP.out.trans (by repeat' (first | exact Plus.refl _ | refine Plus.alloc ?_ _ | refine Plus.plus ?_ _ | refine Plus.drew ?_ | refine Plus.drewN ?_ _))⟩
        · have e1 : (d.toList == [63, 46]) = false := by simpa using e1
          have HR3 : Hid (punM xs (min 4 xs.length) = d) := Lib.hid (by
            rw [HR.out, if_neg h0, if_neg]
            rintro ⟨q, _⟩
            rw [data_eq, q] at e1
            simp at e1)
          clear HR h0
          go_wp2_with (first | (go_at_call 56; (with_reducible refine (plain_c _ (xs.take (k + 1)) _ _ _ ((H.out.tk hk1).plus (HP.out.trans (by repeat' (first | exact Plus.refl _ | refine Plus.alloc ?_ _ | refine Plus.plus ?_ _ | refine Plus.drew ?_ | refine Plus.drewN ?_ _)))) (by omega)).mono ?_); rintro e w1 ⟨rfl, ⟨x2, rfl⟩⟩; rw [HD.out]) | (go_at_call 14; (with_reducible refine (sign_c _ _).mono ?_); rintro e w1 ⟨rfl, rfl⟩; rw [HS.out]))
          go_ret
          exact ⟨by rw [HR3.out]; rfl, HP.out.trans (by repeat' (first | exact Plus.refl _ | refine Plus.alloc ?_ _ | refine Plus.plus ?_ _ | refine Plus.drew ?_ | refine Plus.drewN ?_ _))⟩
end Go.Proofs.YtaigkjffglbknaaDoor
