/- The walk of LexWords. -/
import Derived.Deep.QuietTactic
import Derived.BigQuiet
import Derived.IntWalk
import Derived.Test.YtaigkjffglbknaaDoorX4
namespace Go.Proofs.YtaigkjffglbknaaDoor
open Go.RowKit


theorem rletter_c (c : Nat) (hc : c < 65536) (w : World) : Calls Tryd.prog 36 #[.int .u16 c] w fun e w' => e = .returned (.bool (isLet c)) ∧ w = w' := by
  have hm : ∀ b : Bool, b = isLet c → (Value.bool b) = .bool (isLet c) := fun b h => by rw [h]
  have HM := Lib.hid hm; clear hm
  go_enter Tryd.func36, Tryd.ntmps36
  go_wp2
  all_goals go_ret
  all_goals refine ⟨congrArg Ending.returned (HM.out _ ?_), rfl⟩
  all_goals (rw [Bool.eq_iff_iff]; simp [isLet]; try omega)

theorem rdigit_c (c : Nat) (hc : c < 65536) (w : World) : Calls Tryd.prog 37 #[.int .u16 c] w fun e w' => e = .returned (.bool (isDig c)) ∧ w = w' := by
  have hm : ∀ b : Bool, b = isDig c → (Value.bool b) = .bool (isDig c) := fun b h => by rw [h]
  have HM := Lib.hid hm; clear hm
  go_enter Tryd.func37, Tryd.ntmps37
  go_wp2
  all_goals go_ret
  all_goals refine ⟨congrArg Ending.returned (HM.out _ ?_), rfl⟩
  all_goals (rw [Bool.eq_iff_iff]; simp [isDig]; try omega)

/-- Letters and digits behind a letter. -/
def ltrB (s : ByteArray) : Bool := !s.data.toList.isEmpty && isLet (uAt (nats s) 0) && (nats s).all isPrt
theorem name_ltr (s : ByteArray) : nameB s = (ltrB s && wordN s.data.toList == 0) := by
  unfold nameB ltrB
  cases h0 : s.data.toList.isEmpty
  · have hp : 0 < (nats s).length := by
      rw [nats_data, List.length_map]
      cases hq : s.data.toList with
      | nil => rw [hq] at h0; cases h0
      | cons _ _ => simp
    cases ha : (nats s).all isPrt
    · simp
    · have hx : isPrt (uAt (nats s) 0) = true := List.all_eq_true.1 ha _ (getD_mem hp)
      unfold isPrt at hx
      have hd : isLet (uAt (nats s) 0) = true → isDig (uAt (nats s) 0) = false := fun q => by
        simp [isLet] at q
        simp [isDig]; omega
      cases hl : isLet (uAt (nats s) 0)
      · rw [hl, Bool.false_or] at hx
        rw [hx]
        simp
      · rw [hd hl]
        rfl
  · simp
set_option maxRecDepth 100000 in
set_option maxHeartbeats 4000000 in
theorem letters_c (s : ByteArray) (hs : s.size ≤ 1048576) (w : World) : Calls Tryd.prog 30 #[.string s] w fun e w' => e = .returned (.bool (ltrB s)) ∧ w = w' := by
  have etl := toList_data s
  by_cases h0 : s.toList = []
  · have HN : Hid (ltrB s = false) := Lib.hid (by unfold ltrB; rw [← etl, h0]; rfl)
    have hz : s.size = 0 := by
      have q : s.data.toList.length = s.size := by simp
      rw [← q, ← etl, h0]
      rfl
    clear etl
    go_enter Tryd.func30, Tryd.ntmps30
    go_wp2_with fail
    go_loop [3] (fun s3 => s3 = .int .i64 (0 : Nat)) (fun _ => 0)
    case atStart => rfl
    case round =>
      subst hrel
      go_wp2_with fail
      go_ret
      exact ⟨by rw [HN.out]; rfl, rfl⟩
  · have hz : 0 < s.size := by
      rcases Nat.eq_zero_or_pos s.size with h | h
      · exact absurd (by rw [etl]; exact List.eq_nil_of_length_eq_zero (by simpa using h)) h0
      · exact h
    have he : s.toList.isEmpty = false := by
      cases hl : s.toList with
      | nil => exact absurd hl h0
      | cons _ _ => rfl
    have HE : Hid (s.data.toList.isEmpty = false) := Lib.hid (by rw [← etl]; exact he)
    clear etl
    go_enter Tryd.func30, Tryd.ntmps30
    go_wp2_with fail
    go_loop [3] (fun s3 => ∃ k : Nat, k ≤ s.size ∧ s3 = .int .i64 k ∧ Hid (((nats s).take k).all isPrt = true) ∧ Hid (k = 0 ∨ isLet (uAt (nats s) 0) = true)) (fun s3 => ((s.size : Int) - intOf s3).toNat)
    case atStart => exact ⟨0, by omega, rfl, Lib.hid rfl, Lib.hid (.inl rfl)⟩
    case round =>
      obtain ⟨k, hk, rfl, hA, hF⟩ := hrel
      by_cases hlt : k < s.size
      · have hkn : k < (nats s).length := by rw [nats_len]; exact hlt
        have hbk := s[k].toNat_lt
        have hck : IntKind.u16.wrap (s[k].toNat : Int) = (s[k].toNat : Int) := by rw [IntKind.wrap_u16]; omega
        obtain ⟨b, hb⟩ : ∃ b, isLet s[k].toNat = b := ⟨_, rfl⟩
        have HLT := Lib.hid hb
        obtain ⟨d, hd⟩ : ∃ d, isDig s[k].toNat = d := ⟨_, rfl⟩
        have HDG := Lib.hid hd
        have hg := nats_get s k hlt
        rw [← hg] at hb hd
        cases b
        · by_cases hk0 : k = 0
          · subst hk0
            have HN : Hid (ltrB s = false) := Lib.hid (by
              unfold ltrB
              have : isLet (uAt (nats s) 0) = false := hb
              rw [this]
              simp)
            clear hb hd hg hkn
            go_wp2_with (first | (go_at_call 36; (with_reducible refine (rletter_c s[0].toNat (by omega) _).mono ?_); rintro e w1 ⟨rfl, rfl⟩; rw [HLT.out]) | (go_at_call 37; (with_reducible refine (rdigit_c s[0].toNat (by omega) _).mono ?_); rintro e w1 ⟨rfl, rfl⟩; rw [HDG.out]))
            go_ret
            exact ⟨by rw [HN.out]; rfl, rfl⟩
          · have q0 : ((k : Int) == 0) = false := by simp; omega
            cases d
            · have HN : Hid (ltrB s = false) := Lib.hid (by
                unfold ltrB
                rw [all_stop hkn (by unfold isPrt; rw [hb, hd]; rfl)]
                simp)
              clear hb hd hg hkn hk0
              go_wp2_with (first | (go_at_call 36; (with_reducible refine (rletter_c s[k].toNat (by omega) _).mono ?_); rintro e w1 ⟨rfl, rfl⟩; rw [HLT.out]) | (go_at_call 37; (with_reducible refine (rdigit_c s[k].toNat (by omega) _).mono ?_); rintro e w1 ⟨rfl, rfl⟩; rw [HDG.out]))
              go_ret
              exact ⟨by rw [HN.out]; rfl, rfl⟩
            · have HS : Hid (((nats s).take (k + 1)).all isPrt = true) := Lib.hid (all_step hkn hA.out (by unfold isPrt; rw [hb, hd]; rfl))
              have HF2 : Hid (isLet (uAt (nats s) 0) = true) := Lib.hid (hF.out.resolve_left hk0)
              clear hb hd hg hkn hk0
              go_wp2_with (first | (go_at_call 36; (with_reducible refine (rletter_c s[k].toNat (by omega) _).mono ?_); rintro e w1 ⟨rfl, rfl⟩; rw [HLT.out]) | (go_at_call 37; (with_reducible refine (rdigit_c s[k].toNat (by omega) _).mono ?_); rintro e w1 ⟨rfl, rfl⟩; rw [HDG.out]))
              go_round
              case rel => exact ⟨k + 1, hlt, by rw [show ((k + 1 : Nat) : Int) = (k : Int) + 1 by omega], HS, Lib.hid (.inr HF2.out)⟩
              case measure => simp [intOf]; omega
        · have HS : Hid (((nats s).take (k + 1)).all isPrt = true) := Lib.hid (all_step hkn hA.out (by unfold isPrt; rw [hb]; rfl))
          have HF2 : Hid (isLet (uAt (nats s) 0) = true) := Lib.hid (by
            rcases hF.out with q | q
            · subst q; exact hb
            · exact q)
          clear hb hd hg hkn
          go_wp2_with (first | (go_at_call 36; (with_reducible refine (rletter_c s[k].toNat (by omega) _).mono ?_); rintro e w1 ⟨rfl, rfl⟩; rw [HLT.out]) | (go_at_call 37; (with_reducible refine (rdigit_c s[k].toNat (by omega) _).mono ?_); rintro e w1 ⟨rfl, rfl⟩; rw [HDG.out]))
          go_round
          case rel => exact ⟨k + 1, hlt, by rw [show ((k + 1 : Nat) : Int) = (k : Int) + 1 by omega], HS, Lib.hid (.inr HF2.out)⟩
          case measure => simp [intOf]; omega
      · obtain rfl : k = s.size := by omega
        have HN : Hid (ltrB s = true) := Lib.hid (by
          have q := hA.out
          rw [← nats_len s, List.take_length] at q
          unfold ltrB
          rw [HE.out, q, hF.out.resolve_left (by omega)]
          rfl)
        go_wp2_with fail
        go_ret
        exact ⟨by rw [HN.out]; rfl, rfl⟩
theorem letters_k {s : ByteArray} {b : Bool} (hs : s.size ≤ 1048576) (h : Hid (ltrB s = b)) (w : World) : Calls Tryd.prog 30 #[.string s] w fun e w' => e = .returned (.bool b) ∧ Plus w w' :=
  (letters_c s hs w).mono fun e w' ⟨h1, h2⟩ => ⟨by rw [h1, h.out], by rw [← h2]; exact Plus.refl _⟩
set_option maxRecDepth 100000 in
set_option maxHeartbeats 4000000 in
theorem rname_k {s : ByteArray} {b : Bool} (hs : s.size ≤ 1048576) (h : Hid (nameB s = b)) (w : World) : Calls Tryd.prog 17 #[.string s] w fun e w' => e = .returned (.bool b) ∧ Plus w w' := by
  obtain ⟨l, hl⟩ : ∃ l, ltrB s = l := ⟨_, rfl⟩
  have HLB := Lib.hid hl
  obtain ⟨z, hz⟩ : ∃ z : Int, (wordN s.data.toList : Int) = z := ⟨_, rfl⟩
  have HZ := Lib.hid hz
  have hb : b = (l && (z == 0)) := by
    rw [← h.out, name_ltr, hl, ← hz]
    congr 1
    rw [Bool.eq_iff_iff]; simp
  clear hl hz
  obtain ⟨q, hq⟩ : ∃ q, (z == 0) = q := ⟨_, rfl⟩
  rw [hq] at hb
  subst hb
  cases l
  · go_enter Tryd.func17, Tryd.ntmps17
    go_wp2_with (first | (go_at_call 30; (with_reducible refine (letters_k hs HLB _).mono ?_); rintro e w1 ⟨rfl, ⟨x1, rfl⟩⟩))
    go_ret
    exact ⟨rfl, (by repeat' (first | exact Plus.refl _ | refine Plus.alloc ?_ _ | refine Plus.plus ?_ _ | refine Plus.drew ?_ | refine Plus.drewN ?_ _))⟩
  · go_enter Tryd.func17, Tryd.ntmps17
    go_wp2_with (first | (go_at_call 30; (with_reducible refine (letters_k hs HLB _).mono ?_); rintro e w1 ⟨rfl, ⟨x1, rfl⟩⟩) | (go_at_call 13; (with_reducible refine (rword_k HZ _).mono ?_); rintro e w1 ⟨rfl, ⟨x2, rfl⟩⟩))
    go_ret
    exact ⟨rfl, (by repeat' (first | exact Plus.refl _ | refine Plus.alloc ?_ _ | refine Plus.plus ?_ _ | refine Plus.drew ?_ | refine Plus.drewN ?_ _))⟩

set_option maxRecDepth 100000 in
set_option maxHeartbeats 4000000 in
theorem words_f (s : ByteArray) (w : World) (HL : Hid (Lai w)) (d : decide ((5000 : Int) < (s.size : Int)) = true) : Calls Tryd.prog 3 #[.string s] w fun e w' => e = .returned (.bool true) ∧ Plus w w' := by
  go_enter Tryd.func3, Tryd.ntmps3
  go_wp2_with (go_at_call 11; (with_reducible refine (first_c _ (Lib.hid (HL.out.plus (by repeat' (first | exact Plus.refl _ | refine Plus.alloc ?_ _ | refine Plus.plus ?_ _ | refine Plus.drew ?_ | refine Plus.drewN ?_ _))))).mono ?_); rintro e w1 ⟨rfl, ⟨y0, rfl⟩⟩)
  go_ret
  exact ⟨rfl, (by repeat' (first | exact Plus.refl _ | refine Plus.alloc ?_ _ | refine Plus.plus ?_ _ | refine Plus.drew ?_ | refine Plus.drewN ?_ _))⟩
set_option maxRecDepth 100000 in
set_option maxHeartbeats 4000000 in
theorem words_y (s : ByteArray) (w : World) (HL : Hid (Lai w)) (d : decide ((5000 : Int) < (s.size : Int)) = false) (hs1 : s.size ≤ 1048576) (b : Bool) (z1 z2 : Int) (HN : Hid (nameB s = b)) (H1 : Hid ((wordN s.data.toList : Int) = z1)) (H2 : Hid ((signN s.data.toList : Int) = z2)) : Calls Tryd.prog 3 #[.string s] w fun e w' => e = .returned (.bool true) ∧ Plus w w' := by
  cases b
  all_goals
    go_enter Tryd.func3, Tryd.ntmps3
    go_wp2_with (first | (go_at_call 11; (with_reducible refine (first_c _ (Lib.hid (HL.out.plus (by repeat' (first | exact Plus.refl _ | refine Plus.alloc ?_ _ | refine Plus.plus ?_ _ | refine Plus.drew ?_ | refine Plus.drewN ?_ _))))).mono ?_); rintro e w1 ⟨rfl, ⟨y0, rfl⟩⟩) | (go_at_call 12; (with_reducible refine (word_k H1 _).mono ?_); rintro e w1 ⟨rfl, ⟨x1, rfl⟩⟩) | (go_at_call 13; (with_reducible refine (rword_k H1 _).mono ?_); rintro e w1 ⟨rfl, ⟨x2, rfl⟩⟩) | (go_at_call 14; (with_reducible refine (sign_k H2 _).mono ?_); rintro e w1 ⟨rfl, ⟨x3, rfl⟩⟩) | (go_at_call 15; (with_reducible refine (rsign_k H2 _).mono ?_); rintro e w1 ⟨rfl, ⟨x4, rfl⟩⟩) | (go_at_call 16; (with_reducible refine (name_k hs1 HN _).mono ?_); rintro e w1 ⟨rfl, ⟨x5, rfl⟩⟩) | (go_at_call 17; (with_reducible refine (rname_k hs1 HN _).mono ?_); rintro e w1 ⟨rfl, ⟨x6, rfl⟩⟩))
    go_ret
    exact ⟨rfl, (by repeat' (first | exact Plus.refl _ | refine Plus.alloc ?_ _ | refine Plus.plus ?_ _ | refine Plus.drew ?_ | refine Plus.drewN ?_ _))⟩
theorem words_go (s : ByteArray) (w : World) (hL : Lai w) : Calls Tryd.prog 3 #[.string s] w fun e w' => e = .returned (.bool true) ∧ Plus w w' := by
  by_cases h : s.size ≤ 5000
  · exact words_y s w (Lib.hid hL) (by simp; omega) (by omega) _ _ _ (Lib.hid rfl) (Lib.hid rfl) (Lib.hid rfl)
  · exact words_f s w (Lib.hid hL) (by simp; omega)
end Go.Proofs.YtaigkjffglbknaaDoor
