/- The document's Parse. -/
import Derived.IntWalk
import Derived.Lib.Hide
import Derived.Test.YtdmodkmliagiiaaDoorX2
namespace Go.Proofs.YtdmodkmliagiiaaDoor
open Go.RowKit


theorem fdg_next {s : ByteArray} {i : Nat} (h : i < s.size) : fdg (s.data.toList.take (i + 1)) = if 48 ≤ (s[i]'h).toNat ∧ (s[i]'h).toNat ≤ 57 then 10 * fdg (s.data.toList.take i) + ((s[i]'h).toNat - 48) else fdg (s.data.toList.take i) := by
  have hl : i < s.data.toList.length := by simpa using h
  rw [List.take_succ_eq_append_getElem hl, fdg_snoc]
  rfl
theorem fdg_bd {s : ByteArray} {i : Nat} (h : i ≤ 16) : fdg (s.data.toList.take i) < 10000000000000000 := by
  have h1 := fdg_lt i (s.data.toList.take i) (by rw [List.length_take]; omega)
  have h2 : 10 ^ i ≤ 10 ^ 16 := Nat.pow_le_pow_right (by decide) h
  omega
def PzRel (s : ByteArray) (s5 s6 : Value) : Prop := ∃ i : Nat, i ≤ s.size ∧ s6 = .int .i64 i ∧ ∃ z : Int, z = (fdg (s.data.toList.take i) : Nat) ∧ s5 = .int .i64 z
theorem rof_v {n k m : Int} {o : Bool} (h : Hid (ofS n = ⟨k, m, o⟩)) (w : World) : Calls Tryd.prog 51 #[.int .i64 n] w fun e w' => e = .returned (.tuple #[.agg #[.int .i64 k, .int .i64 m], .bool o]) ∧ Plus w w' := by
  have c := rof_c n w
  rw [h.out] at c
  exact c

set_option maxRecDepth 100000 in
set_option maxHeartbeats 16000000 in
theorem rparse_n2 (s : ByteArray) (w : World) (HT2 : Hid ((⟨(txtR 2 0).toArray⟩ : ByteArray) = ⟨#[78, 97, 78]⟩)) (h2 : (([78, 97, 78] : List UInt8) == s.toList) = true) : Calls Tryd.prog 49 #[.string s] w fun e w' => e = .returned (.tuple #[.agg #[.int .i64 2, .int .i64 0], .bool true]) ∧ Plus w w' := by
  go_enter Tryd.func49, Tryd.ntmps49
  go_wp2_with fail
  go_loopw [4] (fun s4 wr => (s4 = .int .i64 2) ∧ Plus (w.alloc (.cells #[.int .i64 0, .int .i64 0] 23)) wr) (fun s4 _ => (5 - intOf s4).toNat)
  case atStart => exact ⟨rfl, Plus.refl _⟩
  case round =>
    obtain ⟨hs4, hp⟩ := hrel
    obtain ⟨x0, rfl⟩ := hp
    rcases hs4 with rfl
    · go_wp2_with (first | (go_at_call 72; (with_reducible refine (kind_c _ _).mono ?_); rintro e w1 ⟨rfl, ⟨x1, rfl⟩⟩) | (go_at_call 53; (with_reducible refine (rtext_v (HT2) _).mono ?_); rintro e w1 ⟨rfl, ⟨x2, rfl⟩⟩))
      go_returns
      exact ⟨rfl, (by repeat' (first | exact Plus.refl _ | refine Plus.alloc ?_ _ | refine Plus.plus ?_ _ | refine Plus.drew ?_ | refine Plus.drewN ?_ _ | refine Plus.setCell ?_ (by simp) _))⟩

set_option maxRecDepth 100000 in
set_option maxHeartbeats 16000000 in
theorem rparse_n3 (s : ByteArray) (w : World) (HT2 : Hid ((⟨(txtR 2 0).toArray⟩ : ByteArray) = ⟨#[78, 97, 78]⟩)) (HT3 : Hid ((⟨(txtR 3 0).toArray⟩ : ByteArray) = ⟨#[73, 110, 102, 105, 110, 105, 116, 121]⟩)) (h2 : (([78, 97, 78] : List UInt8) == s.toList) = false) (h3 : (([73, 110, 102, 105, 110, 105, 116, 121] : List UInt8) == s.toList) = true) : Calls Tryd.prog 49 #[.string s] w fun e w' => e = .returned (.tuple #[.agg #[.int .i64 3, .int .i64 0], .bool true]) ∧ Plus w w' := by
  go_enter Tryd.func49, Tryd.ntmps49
  go_wp2_with fail
  go_loopw [4] (fun s4 wr => (s4 = .int .i64 2 ∨ s4 = .int .i64 3) ∧ Plus (w.alloc (.cells #[.int .i64 0, .int .i64 0] 23)) wr) (fun s4 _ => (5 - intOf s4).toNat)
  case atStart => exact ⟨.inl rfl, Plus.refl _⟩
  case round =>
    obtain ⟨hs4, hp⟩ := hrel
    obtain ⟨x0, rfl⟩ := hp
    rcases hs4 with rfl | rfl
    · go_wp2_with (first | (go_at_call 72; (with_reducible refine (kind_c _ _).mono ?_); rintro e w1 ⟨rfl, ⟨x1, rfl⟩⟩) | (go_at_call 53; (with_reducible refine (rtext_v (HT2) _).mono ?_); rintro e w1 ⟨rfl, ⟨x2, rfl⟩⟩))
      go_roundw
      case rel => exact ⟨.inr rfl, (by repeat' (first | exact Plus.refl _ | refine Plus.alloc ?_ _ | refine Plus.plus ?_ _ | refine Plus.drew ?_ | refine Plus.drewN ?_ _))⟩
      case measure => decide
    · go_wp2_with (first | (go_at_call 72; (with_reducible refine (kind_c _ _).mono ?_); rintro e w1 ⟨rfl, ⟨x1, rfl⟩⟩) | (go_at_call 53; (with_reducible refine (rtext_v (HT3) _).mono ?_); rintro e w1 ⟨rfl, ⟨x2, rfl⟩⟩))
      go_returns
      exact ⟨rfl, (by repeat' (first | exact Plus.refl _ | refine Plus.alloc ?_ _ | refine Plus.plus ?_ _ | refine Plus.drew ?_ | refine Plus.drewN ?_ _ | refine Plus.setCell ?_ (by simp) _))⟩

set_option maxRecDepth 100000 in
set_option maxHeartbeats 16000000 in
theorem rparse_n4 (s : ByteArray) (w : World) (HT2 : Hid ((⟨(txtR 2 0).toArray⟩ : ByteArray) = ⟨#[78, 97, 78]⟩)) (HT3 : Hid ((⟨(txtR 3 0).toArray⟩ : ByteArray) = ⟨#[73, 110, 102, 105, 110, 105, 116, 121]⟩)) (HT4 : Hid ((⟨(txtR 4 0).toArray⟩ : ByteArray) = ⟨#[45, 73, 110, 102, 105, 110, 105, 116, 121]⟩)) (h2 : (([78, 97, 78] : List UInt8) == s.toList) = false) (h3 : (([73, 110, 102, 105, 110, 105, 116, 121] : List UInt8) == s.toList) = false) (h4 : (([45, 73, 110, 102, 105, 110, 105, 116, 121] : List UInt8) == s.toList) = true) : Calls Tryd.prog 49 #[.string s] w fun e w' => e = .returned (.tuple #[.agg #[.int .i64 4, .int .i64 0], .bool true]) ∧ Plus w w' := by
  go_enter Tryd.func49, Tryd.ntmps49
  go_wp2_with fail
  go_loopw [4] (fun s4 wr => (s4 = .int .i64 2 ∨ s4 = .int .i64 3 ∨ s4 = .int .i64 4) ∧ Plus (w.alloc (.cells #[.int .i64 0, .int .i64 0] 23)) wr) (fun s4 _ => (5 - intOf s4).toNat)
  case atStart => exact ⟨.inl rfl, Plus.refl _⟩
  case round =>
    obtain ⟨hs4, hp⟩ := hrel
    obtain ⟨x0, rfl⟩ := hp
    rcases hs4 with rfl | rfl | rfl
    · go_wp2_with (first | (go_at_call 72; (with_reducible refine (kind_c _ _).mono ?_); rintro e w1 ⟨rfl, ⟨x1, rfl⟩⟩) | (go_at_call 53; (with_reducible refine (rtext_v (HT2) _).mono ?_); rintro e w1 ⟨rfl, ⟨x2, rfl⟩⟩))
      go_roundw
      case rel => exact ⟨.inr (.inl rfl), (by repeat' (first | exact Plus.refl _ | refine Plus.alloc ?_ _ | refine Plus.plus ?_ _ | refine Plus.drew ?_ | refine Plus.drewN ?_ _))⟩
      case measure => decide
    · go_wp2_with (first | (go_at_call 72; (with_reducible refine (kind_c _ _).mono ?_); rintro e w1 ⟨rfl, ⟨x1, rfl⟩⟩) | (go_at_call 53; (with_reducible refine (rtext_v (HT3) _).mono ?_); rintro e w1 ⟨rfl, ⟨x2, rfl⟩⟩))
      go_roundw
      case rel => exact ⟨.inr (.inr rfl), (by repeat' (first | exact Plus.refl _ | refine Plus.alloc ?_ _ | refine Plus.plus ?_ _ | refine Plus.drew ?_ | refine Plus.drewN ?_ _))⟩
      case measure => decide
    · go_wp2_with (first | (go_at_call 72; (with_reducible refine (kind_c _ _).mono ?_); rintro e w1 ⟨rfl, ⟨x1, rfl⟩⟩) | (go_at_call 53; (with_reducible refine (rtext_v (HT4) _).mono ?_); rintro e w1 ⟨rfl, ⟨x2, rfl⟩⟩))
      go_returns
      exact ⟨rfl, (by repeat' (first | exact Plus.refl _ | refine Plus.alloc ?_ _ | refine Plus.plus ?_ _ | refine Plus.drew ?_ | refine Plus.drewN ?_ _ | refine Plus.setCell ?_ (by simp) _))⟩

set_option maxRecDepth 100000 in
set_option maxHeartbeats 16000000 in
theorem rparse_z0 (s : ByteArray) (w : World) (HT2 : Hid ((⟨(txtR 2 0).toArray⟩ : ByteArray) = ⟨#[78, 97, 78]⟩)) (HT3 : Hid ((⟨(txtR 3 0).toArray⟩ : ByteArray) = ⟨#[73, 110, 102, 105, 110, 105, 116, 121]⟩)) (HT4 : Hid ((⟨(txtR 4 0).toArray⟩ : ByteArray) = ⟨#[45, 73, 110, 102, 105, 110, 105, 116, 121]⟩)) (h2 : (([78, 97, 78] : List UInt8) == s.toList) = false) (h3 : (([73, 110, 102, 105, 110, 105, 116, 121] : List UInt8) == s.toList) = false) (h4 : (([45, 73, 110, 102, 105, 110, 105, 116, 121] : List UInt8) == s.toList) = false) (hz : s.size = 0) (_d18 : decide ((s.size : Int) < 18) = true) (k m : Int) (HO : Hid (ofS (0) = ⟨k, m, true⟩)) (T : ByteArray) (HI : Hid ((⟨(Lib.itoa (0)).toArray⟩ : ByteArray) = T)) (hq : (T.toList == s.toList) = false) : Calls Tryd.prog 49 #[.string s] w fun e w' => e = .returned (.tuple #[.agg #[.int .i64 2, .int .i64 0], .bool false]) ∧ Plus w w' := by
  have szi : (s.size : Int) = 0 := by omega
  go_enter Tryd.func49, Tryd.ntmps49
  go_wp2_with fail
  go_loopw [4] (fun s4 wr => (s4 = .int .i64 2 ∨ s4 = .int .i64 3 ∨ s4 = .int .i64 4 ∨ s4 = .int .i64 5) ∧ Plus (w.alloc (.cells #[.int .i64 0, .int .i64 0] 23)) wr) (fun s4 _ => (5 - intOf s4).toNat)
  case atStart => exact ⟨.inl rfl, Plus.refl _⟩
  case round =>
    obtain ⟨hs4, hp⟩ := hrel
    obtain ⟨x0, rfl⟩ := hp
    rcases hs4 with rfl | rfl | rfl | rfl
    · go_wp2_with (first | (go_at_call 72; (with_reducible refine (kind_c _ _).mono ?_); rintro e w1 ⟨rfl, ⟨x1, rfl⟩⟩) | (go_at_call 53; (with_reducible refine (rtext_v (HT2) _).mono ?_); rintro e w1 ⟨rfl, ⟨x2, rfl⟩⟩))
      go_roundw
      case rel => exact ⟨.inr (.inl rfl), (by repeat' (first | exact Plus.refl _ | refine Plus.alloc ?_ _ | refine Plus.plus ?_ _ | refine Plus.drew ?_ | refine Plus.drewN ?_ _))⟩
      case measure => decide
    · go_wp2_with (first | (go_at_call 72; (with_reducible refine (kind_c _ _).mono ?_); rintro e w1 ⟨rfl, ⟨x1, rfl⟩⟩) | (go_at_call 53; (with_reducible refine (rtext_v (HT3) _).mono ?_); rintro e w1 ⟨rfl, ⟨x2, rfl⟩⟩))
      go_roundw
      case rel => exact ⟨.inr (.inr (.inl rfl)), (by repeat' (first | exact Plus.refl _ | refine Plus.alloc ?_ _ | refine Plus.plus ?_ _ | refine Plus.drew ?_ | refine Plus.drewN ?_ _))⟩
      case measure => decide
    · go_wp2_with (first | (go_at_call 72; (with_reducible refine (kind_c _ _).mono ?_); rintro e w1 ⟨rfl, ⟨x1, rfl⟩⟩) | (go_at_call 53; (with_reducible refine (rtext_v (HT4) _).mono ?_); rintro e w1 ⟨rfl, ⟨x2, rfl⟩⟩))
      go_roundw
      case rel => exact ⟨.inr (.inr (.inr rfl)), (by repeat' (first | exact Plus.refl _ | refine Plus.alloc ?_ _ | refine Plus.plus ?_ _ | refine Plus.drew ?_ | refine Plus.drewN ?_ _))⟩
      case measure => decide
    · go_wp2_with fail
      go_loop [5, 6] (fun s5 s6 => s5 = .int .i64 0 ∧ s6 = .int .i64 0) (fun _ _ => 0)
      case atStart => exact ⟨rfl, rfl⟩
      case round =>
        obtain ⟨rfl, rfl⟩ := hrel
        go_wp2_with (first | (go_at_call 51; (with_reducible refine (rof_v HO _).mono ?_); rintro e w1 ⟨rfl, ⟨x3, rfl⟩⟩) | (go_at_call 62; (with_reducible refine (rNaN_c _).mono ?_); rintro e w1 ⟨rfl, ⟨x5, rfl⟩⟩) | (go_at_call 78; (with_reducible refine (rdec_v (by omega) (by omega) HI _).mono ?_); rintro e w1 ⟨rfl, ⟨x4, rfl⟩⟩))
        go_returns
        exact ⟨rfl, (by repeat' (first | exact Plus.refl _ | refine Plus.alloc ?_ _ | refine Plus.plus ?_ _ | refine Plus.drew ?_ | refine Plus.drewN ?_ _ | refine Plus.setCell ?_ (by simp) _))⟩

set_option maxRecDepth 100000 in
set_option maxHeartbeats 16000000 in
theorem rparse_pno (s : ByteArray) (w : World) (HT2 : Hid ((⟨(txtR 2 0).toArray⟩ : ByteArray) = ⟨#[78, 97, 78]⟩)) (HT3 : Hid ((⟨(txtR 3 0).toArray⟩ : ByteArray) = ⟨#[73, 110, 102, 105, 110, 105, 116, 121]⟩)) (HT4 : Hid ((⟨(txtR 4 0).toArray⟩ : ByteArray) = ⟨#[45, 73, 110, 102, 105, 110, 105, 116, 121]⟩)) (h2 : (([78, 97, 78] : List UInt8) == s.toList) = false) (h3 : (([73, 110, 102, 105, 110, 105, 116, 121] : List UInt8) == s.toList) = false) (h4 : (([45, 73, 110, 102, 105, 110, 105, 116, 121] : List UInt8) == s.toList) = false) (hz : 0 < s.size) (h45 : (((s[0]'hz).toNat : Int) == 45) = false) (d18 : decide ((s.size : Int) < 18) = true) (Z : Int) (HZ : Hid ((fdg s.data.toList : Int) = Z)) (z0 : 0 ≤ Z) (z1 : Z < 1000000000000000000) (k m : Int) (HO : Hid (ofS (Z) = ⟨k, m, false⟩)) : Calls Tryd.prog 49 #[.string s] w fun e w' => e = .returned (.tuple #[.agg #[.int .i64 2, .int .i64 0], .bool false]) ∧ Plus w w' := by
  have szp : (0 : Int) < (s.size : Int) := by omega
  go_enter Tryd.func49, Tryd.ntmps49
  go_wp2_with fail
  go_loopw [4] (fun s4 wr => (s4 = .int .i64 2 ∨ s4 = .int .i64 3 ∨ s4 = .int .i64 4 ∨ s4 = .int .i64 5) ∧ Plus (w.alloc (.cells #[.int .i64 0, .int .i64 0] 23)) wr) (fun s4 _ => (5 - intOf s4).toNat)
  case atStart => exact ⟨.inl rfl, Plus.refl _⟩
  case round =>
    obtain ⟨hs4, hp⟩ := hrel
    obtain ⟨x0, rfl⟩ := hp
    rcases hs4 with rfl | rfl | rfl | rfl
    · go_wp2_with (first | (go_at_call 72; (with_reducible refine (kind_c _ _).mono ?_); rintro e w1 ⟨rfl, ⟨x1, rfl⟩⟩) | (go_at_call 53; (with_reducible refine (rtext_v (HT2) _).mono ?_); rintro e w1 ⟨rfl, ⟨x2, rfl⟩⟩))
      go_roundw
      case rel => exact ⟨.inr (.inl rfl), (by repeat' (first | exact Plus.refl _ | refine Plus.alloc ?_ _ | refine Plus.plus ?_ _ | refine Plus.drew ?_ | refine Plus.drewN ?_ _))⟩
      case measure => decide
    · go_wp2_with (first | (go_at_call 72; (with_reducible refine (kind_c _ _).mono ?_); rintro e w1 ⟨rfl, ⟨x1, rfl⟩⟩) | (go_at_call 53; (with_reducible refine (rtext_v (HT3) _).mono ?_); rintro e w1 ⟨rfl, ⟨x2, rfl⟩⟩))
      go_roundw
      case rel => exact ⟨.inr (.inr (.inl rfl)), (by repeat' (first | exact Plus.refl _ | refine Plus.alloc ?_ _ | refine Plus.plus ?_ _ | refine Plus.drew ?_ | refine Plus.drewN ?_ _))⟩
      case measure => decide
    · go_wp2_with (first | (go_at_call 72; (with_reducible refine (kind_c _ _).mono ?_); rintro e w1 ⟨rfl, ⟨x1, rfl⟩⟩) | (go_at_call 53; (with_reducible refine (rtext_v (HT4) _).mono ?_); rintro e w1 ⟨rfl, ⟨x2, rfl⟩⟩))
      go_roundw
      case rel => exact ⟨.inr (.inr (.inr rfl)), (by repeat' (first | exact Plus.refl _ | refine Plus.alloc ?_ _ | refine Plus.plus ?_ _ | refine Plus.drew ?_ | refine Plus.drewN ?_ _))⟩
      case measure => decide
    · go_wp2_with fail
      go_loop [5, 6] (fun s5 s6 => PzRel s s5 s6) (fun _ s6 => ((s.size : Int) - intOf s6).toNat)
      case atStart => exact ⟨0, by omega, rfl, 0, rfl, rfl⟩
      case round =>
        obtain ⟨i, hi, rfl, z, hz', rfl⟩ := hrel
        by_cases hlt : i < s.size
        · have hi16 : i ≤ 16 := by have : (s.size : Int) < 18 := by simpa using d18
                                   omega
          have hzb : z < 10000000000000000 := by have := fdg_bd (s := s) hi16; omega
          have hz0 : 0 ≤ z := by omega
          have hbt := (s[i]'hlt).toNat_lt
          have HNX := Lib.hid (fdg_next hlt)
          have HZ' := Lib.hid hz'
          clear hz'
          obtain ⟨b, hb⟩ : ∃ b : Int, ((s[i]'hlt).toNat : Int) = b := ⟨_, rfl⟩
          have HBB := Lib.hid hb
          have hb0 : 0 ≤ b := by omega
          have hb1 : b < 256 := by omega
          have hcs : decide (48 ≤ b) = false ∨ decide (48 ≤ b) = true ∧ decide (b ≤ 57) = false ∨ decide (48 ≤ b) = true ∧ decide (b ≤ 57) = true := by
            simp
            omega
          rcases hcs with c1 | ⟨c1, c2⟩ | ⟨c1, c2⟩
          · have HN : Hid (z = (fdg (s.data.toList.take (i + 1)) : Nat)) := Lib.hid (by rw [HNX.out, if_neg (by have := HBB.out; simp at c1; omega)]; exact HZ'.out)
            go_wp2_with fail
            go_round
            case rel => exact ⟨i + 1, hlt, by rw [show ((i + 1 : Nat) : Int) = (i : Int) + 1 by omega], _, HN.out, rfl⟩
            case measure => simp [intOf]; omega
          · have HN : Hid (z = (fdg (s.data.toList.take (i + 1)) : Nat)) := Lib.hid (by rw [HNX.out, if_neg (by have := HBB.out; simp at c1 c2; omega)]; exact HZ'.out)
            go_wp2_with fail
            go_round
            case rel => exact ⟨i + 1, hlt, by rw [show ((i + 1 : Nat) : Int) = (i : Int) + 1 by omega], _, HN.out, rfl⟩
            case measure => simp [intOf]; omega
          · have q1 : 48 ≤ b := by simpa using c1
            have q2 : b ≤ 57 := by simpa using c2
            have HN : Hid (10 * z + (b - 48) = (fdg (s.data.toList.take (i + 1)) : Nat)) := Lib.hid (by rw [HNX.out, if_pos (by have := HBB.out; omega)]; have := HZ'.out; have := HBB.out; omega)
            go_wp2_with fail
            go_round
            case rel => exact ⟨i + 1, hlt, by rw [show ((i + 1 : Nat) : Int) = (i : Int) + 1 by omega], _, HN.out, rfl⟩
            case measure => simp [intOf]; omega
        · obtain rfl : i = s.size := by omega
          have hzz : z = Z := by
            rw [hz', ← HZ.out]
            congr 2
            rw [show s.size = s.data.toList.length by simp, List.take_length]
          clear hz'
          subst hzz
          go_wp2_with (first | (go_at_call 51; (with_reducible refine (rof_v HO _).mono ?_); rintro e w1 ⟨rfl, ⟨x3, rfl⟩⟩) | (go_at_call 62; (with_reducible refine (rNaN_c _).mono ?_); rintro e w1 ⟨rfl, ⟨x5, rfl⟩⟩))
          go_returns
          exact ⟨rfl, (by repeat' (first | exact Plus.refl _ | refine Plus.alloc ?_ _ | refine Plus.plus ?_ _ | refine Plus.drew ?_ | refine Plus.drewN ?_ _ | refine Plus.setCell ?_ (by simp) _))⟩

set_option maxRecDepth 100000 in
set_option maxHeartbeats 16000000 in
theorem rparse_peq (s : ByteArray) (w : World) (HT2 : Hid ((⟨(txtR 2 0).toArray⟩ : ByteArray) = ⟨#[78, 97, 78]⟩)) (HT3 : Hid ((⟨(txtR 3 0).toArray⟩ : ByteArray) = ⟨#[73, 110, 102, 105, 110, 105, 116, 121]⟩)) (HT4 : Hid ((⟨(txtR 4 0).toArray⟩ : ByteArray) = ⟨#[45, 73, 110, 102, 105, 110, 105, 116, 121]⟩)) (h2 : (([78, 97, 78] : List UInt8) == s.toList) = false) (h3 : (([73, 110, 102, 105, 110, 105, 116, 121] : List UInt8) == s.toList) = false) (h4 : (([45, 73, 110, 102, 105, 110, 105, 116, 121] : List UInt8) == s.toList) = false) (hz : 0 < s.size) (h45 : (((s[0]'hz).toNat : Int) == 45) = false) (d18 : decide ((s.size : Int) < 18) = true) (Z : Int) (HZ : Hid ((fdg s.data.toList : Int) = Z)) (z0 : 0 ≤ Z) (z1 : Z < 1000000000000000000) (k m : Int) (HO : Hid (ofS (Z) = ⟨k, m, true⟩)) (T : ByteArray) (HI : Hid ((⟨(Lib.itoa (Z)).toArray⟩ : ByteArray) = T)) (hq : (T.toList == s.toList) = true) : Calls Tryd.prog 49 #[.string s] w fun e w' => e = .returned (.tuple #[.agg #[.int .i64 k, .int .i64 m], .bool true]) ∧ Plus w w' := by
  have szp : (0 : Int) < (s.size : Int) := by omega
  go_enter Tryd.func49, Tryd.ntmps49
  go_wp2_with fail
  go_loopw [4] (fun s4 wr => (s4 = .int .i64 2 ∨ s4 = .int .i64 3 ∨ s4 = .int .i64 4 ∨ s4 = .int .i64 5) ∧ Plus (w.alloc (.cells #[.int .i64 0, .int .i64 0] 23)) wr) (fun s4 _ => (5 - intOf s4).toNat)
  case atStart => exact ⟨.inl rfl, Plus.refl _⟩
  case round =>
    obtain ⟨hs4, hp⟩ := hrel
    obtain ⟨x0, rfl⟩ := hp
    rcases hs4 with rfl | rfl | rfl | rfl
    · go_wp2_with (first | (go_at_call 72; (with_reducible refine (kind_c _ _).mono ?_); rintro e w1 ⟨rfl, ⟨x1, rfl⟩⟩) | (go_at_call 53; (with_reducible refine (rtext_v (HT2) _).mono ?_); rintro e w1 ⟨rfl, ⟨x2, rfl⟩⟩))
      go_roundw
      case rel => exact ⟨.inr (.inl rfl), (by repeat' (first | exact Plus.refl _ | refine Plus.alloc ?_ _ | refine Plus.plus ?_ _ | refine Plus.drew ?_ | refine Plus.drewN ?_ _))⟩
      case measure => decide
    · go_wp2_with (first | (go_at_call 72; (with_reducible refine (kind_c _ _).mono ?_); rintro e w1 ⟨rfl, ⟨x1, rfl⟩⟩) | (go_at_call 53; (with_reducible refine (rtext_v (HT3) _).mono ?_); rintro e w1 ⟨rfl, ⟨x2, rfl⟩⟩))
      go_roundw
      case rel => exact ⟨.inr (.inr (.inl rfl)), (by repeat' (first | exact Plus.refl _ | refine Plus.alloc ?_ _ | refine Plus.plus ?_ _ | refine Plus.drew ?_ | refine Plus.drewN ?_ _))⟩
      case measure => decide
    · go_wp2_with (first | (go_at_call 72; (with_reducible refine (kind_c _ _).mono ?_); rintro e w1 ⟨rfl, ⟨x1, rfl⟩⟩) | (go_at_call 53; (with_reducible refine (rtext_v (HT4) _).mono ?_); rintro e w1 ⟨rfl, ⟨x2, rfl⟩⟩))
      go_roundw
      case rel => exact ⟨.inr (.inr (.inr rfl)), (by repeat' (first | exact Plus.refl _ | refine Plus.alloc ?_ _ | refine Plus.plus ?_ _ | refine Plus.drew ?_ | refine Plus.drewN ?_ _))⟩
      case measure => decide
    · go_wp2_with fail
      go_loop [5, 6] (fun s5 s6 => PzRel s s5 s6) (fun _ s6 => ((s.size : Int) - intOf s6).toNat)
      case atStart => exact ⟨0, by omega, rfl, 0, rfl, rfl⟩
      case round =>
        obtain ⟨i, hi, rfl, z, hz', rfl⟩ := hrel
        by_cases hlt : i < s.size
        · have hi16 : i ≤ 16 := by have : (s.size : Int) < 18 := by simpa using d18
                                   omega
          have hzb : z < 10000000000000000 := by have := fdg_bd (s := s) hi16; omega
          have hz0 : 0 ≤ z := by omega
          have hbt := (s[i]'hlt).toNat_lt
          have HNX := Lib.hid (fdg_next hlt)
          have HZ' := Lib.hid hz'
          clear hz'
          obtain ⟨b, hb⟩ : ∃ b : Int, ((s[i]'hlt).toNat : Int) = b := ⟨_, rfl⟩
          have HBB := Lib.hid hb
          have hb0 : 0 ≤ b := by omega
          have hb1 : b < 256 := by omega
          have hcs : decide (48 ≤ b) = false ∨ decide (48 ≤ b) = true ∧ decide (b ≤ 57) = false ∨ decide (48 ≤ b) = true ∧ decide (b ≤ 57) = true := by
            simp
            omega
          rcases hcs with c1 | ⟨c1, c2⟩ | ⟨c1, c2⟩
          · have HN : Hid (z = (fdg (s.data.toList.take (i + 1)) : Nat)) := Lib.hid (by rw [HNX.out, if_neg (by have := HBB.out; simp at c1; omega)]; exact HZ'.out)
            go_wp2_with fail
            go_round
            case rel => exact ⟨i + 1, hlt, by rw [show ((i + 1 : Nat) : Int) = (i : Int) + 1 by omega], _, HN.out, rfl⟩
            case measure => simp [intOf]; omega
          · have HN : Hid (z = (fdg (s.data.toList.take (i + 1)) : Nat)) := Lib.hid (by rw [HNX.out, if_neg (by have := HBB.out; simp at c1 c2; omega)]; exact HZ'.out)
            go_wp2_with fail
            go_round
            case rel => exact ⟨i + 1, hlt, by rw [show ((i + 1 : Nat) : Int) = (i : Int) + 1 by omega], _, HN.out, rfl⟩
            case measure => simp [intOf]; omega
          · have q1 : 48 ≤ b := by simpa using c1
            have q2 : b ≤ 57 := by simpa using c2
            have HN : Hid (10 * z + (b - 48) = (fdg (s.data.toList.take (i + 1)) : Nat)) := Lib.hid (by rw [HNX.out, if_pos (by have := HBB.out; omega)]; have := HZ'.out; have := HBB.out; omega)
            go_wp2_with fail
            go_round
            case rel => exact ⟨i + 1, hlt, by rw [show ((i + 1 : Nat) : Int) = (i : Int) + 1 by omega], _, HN.out, rfl⟩
            case measure => simp [intOf]; omega
        · obtain rfl : i = s.size := by omega
          have hzz : z = Z := by
            rw [hz', ← HZ.out]
            congr 2
            rw [show s.size = s.data.toList.length by simp, List.take_length]
          clear hz'
          subst hzz
          go_wp2_with (first | (go_at_call 51; (with_reducible refine (rof_v HO _).mono ?_); rintro e w1 ⟨rfl, ⟨x3, rfl⟩⟩) | (go_at_call 62; (with_reducible refine (rNaN_c _).mono ?_); rintro e w1 ⟨rfl, ⟨x5, rfl⟩⟩) | (go_at_call 78; (with_reducible refine (rdec_v (by omega) (by omega) HI _).mono ?_); rintro e w1 ⟨rfl, ⟨x4, rfl⟩⟩))
          go_returns
          exact ⟨rfl, (by repeat' (first | exact Plus.refl _ | refine Plus.alloc ?_ _ | refine Plus.plus ?_ _ | refine Plus.drew ?_ | refine Plus.drewN ?_ _ | refine Plus.setCell ?_ (by simp) _))⟩

set_option maxRecDepth 100000 in
set_option maxHeartbeats 16000000 in
theorem rparse_pne (s : ByteArray) (w : World) (HT2 : Hid ((⟨(txtR 2 0).toArray⟩ : ByteArray) = ⟨#[78, 97, 78]⟩)) (HT3 : Hid ((⟨(txtR 3 0).toArray⟩ : ByteArray) = ⟨#[73, 110, 102, 105, 110, 105, 116, 121]⟩)) (HT4 : Hid ((⟨(txtR 4 0).toArray⟩ : ByteArray) = ⟨#[45, 73, 110, 102, 105, 110, 105, 116, 121]⟩)) (h2 : (([78, 97, 78] : List UInt8) == s.toList) = false) (h3 : (([73, 110, 102, 105, 110, 105, 116, 121] : List UInt8) == s.toList) = false) (h4 : (([45, 73, 110, 102, 105, 110, 105, 116, 121] : List UInt8) == s.toList) = false) (hz : 0 < s.size) (h45 : (((s[0]'hz).toNat : Int) == 45) = false) (d18 : decide ((s.size : Int) < 18) = true) (Z : Int) (HZ : Hid ((fdg s.data.toList : Int) = Z)) (z0 : 0 ≤ Z) (z1 : Z < 1000000000000000000) (k m : Int) (HO : Hid (ofS (Z) = ⟨k, m, true⟩)) (T : ByteArray) (HI : Hid ((⟨(Lib.itoa (Z)).toArray⟩ : ByteArray) = T)) (hq : (T.toList == s.toList) = false) : Calls Tryd.prog 49 #[.string s] w fun e w' => e = .returned (.tuple #[.agg #[.int .i64 2, .int .i64 0], .bool false]) ∧ Plus w w' := by
  have szp : (0 : Int) < (s.size : Int) := by omega
  go_enter Tryd.func49, Tryd.ntmps49
  go_wp2_with fail
  go_loopw [4] (fun s4 wr => (s4 = .int .i64 2 ∨ s4 = .int .i64 3 ∨ s4 = .int .i64 4 ∨ s4 = .int .i64 5) ∧ Plus (w.alloc (.cells #[.int .i64 0, .int .i64 0] 23)) wr) (fun s4 _ => (5 - intOf s4).toNat)
  case atStart => exact ⟨.inl rfl, Plus.refl _⟩
  case round =>
    obtain ⟨hs4, hp⟩ := hrel
    obtain ⟨x0, rfl⟩ := hp
    rcases hs4 with rfl | rfl | rfl | rfl
    · go_wp2_with (first | (go_at_call 72; (with_reducible refine (kind_c _ _).mono ?_); rintro e w1 ⟨rfl, ⟨x1, rfl⟩⟩) | (go_at_call 53; (with_reducible refine (rtext_v (HT2) _).mono ?_); rintro e w1 ⟨rfl, ⟨x2, rfl⟩⟩))
      go_roundw
      case rel => exact ⟨.inr (.inl rfl), (by repeat' (first | exact Plus.refl _ | refine Plus.alloc ?_ _ | refine Plus.plus ?_ _ | refine Plus.drew ?_ | refine Plus.drewN ?_ _))⟩
      case measure => decide
    · go_wp2_with (first | (go_at_call 72; (with_reducible refine (kind_c _ _).mono ?_); rintro e w1 ⟨rfl, ⟨x1, rfl⟩⟩) | (go_at_call 53; (with_reducible refine (rtext_v (HT3) _).mono ?_); rintro e w1 ⟨rfl, ⟨x2, rfl⟩⟩))
      go_roundw
      case rel => exact ⟨.inr (.inr (.inl rfl)), (by repeat' (first | exact Plus.refl _ | refine Plus.alloc ?_ _ | refine Plus.plus ?_ _ | refine Plus.drew ?_ | refine Plus.drewN ?_ _))⟩
      case measure => decide
    · go_wp2_with (first | (go_at_call 72; (with_reducible refine (kind_c _ _).mono ?_); rintro e w1 ⟨rfl, ⟨x1, rfl⟩⟩) | (go_at_call 53; (with_reducible refine (rtext_v (HT4) _).mono ?_); rintro e w1 ⟨rfl, ⟨x2, rfl⟩⟩))
      go_roundw
      case rel => exact ⟨.inr (.inr (.inr rfl)), (by repeat' (first | exact Plus.refl _ | refine Plus.alloc ?_ _ | refine Plus.plus ?_ _ | refine Plus.drew ?_ | refine Plus.drewN ?_ _))⟩
      case measure => decide
    · go_wp2_with fail
      go_loop [5, 6] (fun s5 s6 => PzRel s s5 s6) (fun _ s6 => ((s.size : Int) - intOf s6).toNat)
      case atStart => exact ⟨0, by omega, rfl, 0, rfl, rfl⟩
      case round =>
        obtain ⟨i, hi, rfl, z, hz', rfl⟩ := hrel
        by_cases hlt : i < s.size
        · have hi16 : i ≤ 16 := by have : (s.size : Int) < 18 := by simpa using d18
                                   omega
          have hzb : z < 10000000000000000 := by have := fdg_bd (s := s) hi16; omega
          have hz0 : 0 ≤ z := by omega
          have hbt := (s[i]'hlt).toNat_lt
          have HNX := Lib.hid (fdg_next hlt)
          have HZ' := Lib.hid hz'
          clear hz'
          obtain ⟨b, hb⟩ : ∃ b : Int, ((s[i]'hlt).toNat : Int) = b := ⟨_, rfl⟩
          have HBB := Lib.hid hb
          have hb0 : 0 ≤ b := by omega
          have hb1 : b < 256 := by omega
          have hcs : decide (48 ≤ b) = false ∨ decide (48 ≤ b) = true ∧ decide (b ≤ 57) = false ∨ decide (48 ≤ b) = true ∧ decide (b ≤ 57) = true := by
            simp
            omega
          rcases hcs with c1 | ⟨c1, c2⟩ | ⟨c1, c2⟩
          · have HN : Hid (z = (fdg (s.data.toList.take (i + 1)) : Nat)) := Lib.hid (by rw [HNX.out, if_neg (by have := HBB.out; simp at c1; omega)]; exact HZ'.out)
            go_wp2_with fail
            go_round
            case rel => exact ⟨i + 1, hlt, by rw [show ((i + 1 : Nat) : Int) = (i : Int) + 1 by omega], _, HN.out, rfl⟩
            case measure => simp [intOf]; omega
          · have HN : Hid (z = (fdg (s.data.toList.take (i + 1)) : Nat)) := Lib.hid (by rw [HNX.out, if_neg (by have := HBB.out; simp at c1 c2; omega)]; exact HZ'.out)
            go_wp2_with fail
            go_round
            case rel => exact ⟨i + 1, hlt, by rw [show ((i + 1 : Nat) : Int) = (i : Int) + 1 by omega], _, HN.out, rfl⟩
            case measure => simp [intOf]; omega
          · have q1 : 48 ≤ b := by simpa using c1
            have q2 : b ≤ 57 := by simpa using c2
            have HN : Hid (10 * z + (b - 48) = (fdg (s.data.toList.take (i + 1)) : Nat)) := Lib.hid (by rw [HNX.out, if_pos (by have := HBB.out; omega)]; have := HZ'.out; have := HBB.out; omega)
            go_wp2_with fail
            go_round
            case rel => exact ⟨i + 1, hlt, by rw [show ((i + 1 : Nat) : Int) = (i : Int) + 1 by omega], _, HN.out, rfl⟩
            case measure => simp [intOf]; omega
        · obtain rfl : i = s.size := by omega
          have hzz : z = Z := by
            rw [hz', ← HZ.out]
            congr 2
            rw [show s.size = s.data.toList.length by simp, List.take_length]
          clear hz'
          subst hzz
          go_wp2_with (first | (go_at_call 51; (with_reducible refine (rof_v HO _).mono ?_); rintro e w1 ⟨rfl, ⟨x3, rfl⟩⟩) | (go_at_call 62; (with_reducible refine (rNaN_c _).mono ?_); rintro e w1 ⟨rfl, ⟨x5, rfl⟩⟩) | (go_at_call 78; (with_reducible refine (rdec_v (by omega) (by omega) HI _).mono ?_); rintro e w1 ⟨rfl, ⟨x4, rfl⟩⟩))
          go_returns
          exact ⟨rfl, (by repeat' (first | exact Plus.refl _ | refine Plus.alloc ?_ _ | refine Plus.plus ?_ _ | refine Plus.drew ?_ | refine Plus.drewN ?_ _ | refine Plus.setCell ?_ (by simp) _))⟩

set_option maxRecDepth 100000 in
set_option maxHeartbeats 16000000 in
theorem rparse_nno (s : ByteArray) (w : World) (HT2 : Hid ((⟨(txtR 2 0).toArray⟩ : ByteArray) = ⟨#[78, 97, 78]⟩)) (HT3 : Hid ((⟨(txtR 3 0).toArray⟩ : ByteArray) = ⟨#[73, 110, 102, 105, 110, 105, 116, 121]⟩)) (HT4 : Hid ((⟨(txtR 4 0).toArray⟩ : ByteArray) = ⟨#[45, 73, 110, 102, 105, 110, 105, 116, 121]⟩)) (h2 : (([78, 97, 78] : List UInt8) == s.toList) = false) (h3 : (([73, 110, 102, 105, 110, 105, 116, 121] : List UInt8) == s.toList) = false) (h4 : (([45, 73, 110, 102, 105, 110, 105, 116, 121] : List UInt8) == s.toList) = false) (hz : 0 < s.size) (h45 : (((s[0]'hz).toNat : Int) == 45) = true) (d18 : decide ((s.size : Int) < 18) = true) (Z : Int) (HZ : Hid ((fdg s.data.toList : Int) = Z)) (z0 : 0 ≤ Z) (z1 : Z < 1000000000000000000) (k m : Int) (HO : Hid (ofS (-Z) = ⟨k, m, false⟩)) : Calls Tryd.prog 49 #[.string s] w fun e w' => e = .returned (.tuple #[.agg #[.int .i64 2, .int .i64 0], .bool false]) ∧ Plus w w' := by
  have szp : (0 : Int) < (s.size : Int) := by omega
  go_enter Tryd.func49, Tryd.ntmps49
  go_wp2_with fail
  go_loopw [4] (fun s4 wr => (s4 = .int .i64 2 ∨ s4 = .int .i64 3 ∨ s4 = .int .i64 4 ∨ s4 = .int .i64 5) ∧ Plus (w.alloc (.cells #[.int .i64 0, .int .i64 0] 23)) wr) (fun s4 _ => (5 - intOf s4).toNat)
  case atStart => exact ⟨.inl rfl, Plus.refl _⟩
  case round =>
    obtain ⟨hs4, hp⟩ := hrel
    obtain ⟨x0, rfl⟩ := hp
    rcases hs4 with rfl | rfl | rfl | rfl
    · go_wp2_with (first | (go_at_call 72; (with_reducible refine (kind_c _ _).mono ?_); rintro e w1 ⟨rfl, ⟨x1, rfl⟩⟩) | (go_at_call 53; (with_reducible refine (rtext_v (HT2) _).mono ?_); rintro e w1 ⟨rfl, ⟨x2, rfl⟩⟩))
      go_roundw
      case rel => exact ⟨.inr (.inl rfl), (by repeat' (first | exact Plus.refl _ | refine Plus.alloc ?_ _ | refine Plus.plus ?_ _ | refine Plus.drew ?_ | refine Plus.drewN ?_ _))⟩
      case measure => decide
    · go_wp2_with (first | (go_at_call 72; (with_reducible refine (kind_c _ _).mono ?_); rintro e w1 ⟨rfl, ⟨x1, rfl⟩⟩) | (go_at_call 53; (with_reducible refine (rtext_v (HT3) _).mono ?_); rintro e w1 ⟨rfl, ⟨x2, rfl⟩⟩))
      go_roundw
      case rel => exact ⟨.inr (.inr (.inl rfl)), (by repeat' (first | exact Plus.refl _ | refine Plus.alloc ?_ _ | refine Plus.plus ?_ _ | refine Plus.drew ?_ | refine Plus.drewN ?_ _))⟩
      case measure => decide
    · go_wp2_with (first | (go_at_call 72; (with_reducible refine (kind_c _ _).mono ?_); rintro e w1 ⟨rfl, ⟨x1, rfl⟩⟩) | (go_at_call 53; (with_reducible refine (rtext_v (HT4) _).mono ?_); rintro e w1 ⟨rfl, ⟨x2, rfl⟩⟩))
      go_roundw
      case rel => exact ⟨.inr (.inr (.inr rfl)), (by repeat' (first | exact Plus.refl _ | refine Plus.alloc ?_ _ | refine Plus.plus ?_ _ | refine Plus.drew ?_ | refine Plus.drewN ?_ _))⟩
      case measure => decide
    · go_wp2_with fail
      go_loop [5, 6] (fun s5 s6 => PzRel s s5 s6) (fun _ s6 => ((s.size : Int) - intOf s6).toNat)
      case atStart => exact ⟨0, by omega, rfl, 0, rfl, rfl⟩
      case round =>
        obtain ⟨i, hi, rfl, z, hz', rfl⟩ := hrel
        by_cases hlt : i < s.size
        · have hi16 : i ≤ 16 := by have : (s.size : Int) < 18 := by simpa using d18
                                   omega
          have hzb : z < 10000000000000000 := by have := fdg_bd (s := s) hi16; omega
          have hz0 : 0 ≤ z := by omega
          have hbt := (s[i]'hlt).toNat_lt
          have HNX := Lib.hid (fdg_next hlt)
          have HZ' := Lib.hid hz'
          clear hz'
          obtain ⟨b, hb⟩ : ∃ b : Int, ((s[i]'hlt).toNat : Int) = b := ⟨_, rfl⟩
          have HBB := Lib.hid hb
          have hb0 : 0 ≤ b := by omega
          have hb1 : b < 256 := by omega
          have hcs : decide (48 ≤ b) = false ∨ decide (48 ≤ b) = true ∧ decide (b ≤ 57) = false ∨ decide (48 ≤ b) = true ∧ decide (b ≤ 57) = true := by
            simp
            omega
          rcases hcs with c1 | ⟨c1, c2⟩ | ⟨c1, c2⟩
          · have HN : Hid (z = (fdg (s.data.toList.take (i + 1)) : Nat)) := Lib.hid (by rw [HNX.out, if_neg (by have := HBB.out; simp at c1; omega)]; exact HZ'.out)
            go_wp2_with fail
            go_round
            case rel => exact ⟨i + 1, hlt, by rw [show ((i + 1 : Nat) : Int) = (i : Int) + 1 by omega], _, HN.out, rfl⟩
            case measure => simp [intOf]; omega
          · have HN : Hid (z = (fdg (s.data.toList.take (i + 1)) : Nat)) := Lib.hid (by rw [HNX.out, if_neg (by have := HBB.out; simp at c1 c2; omega)]; exact HZ'.out)
            go_wp2_with fail
            go_round
            case rel => exact ⟨i + 1, hlt, by rw [show ((i + 1 : Nat) : Int) = (i : Int) + 1 by omega], _, HN.out, rfl⟩
            case measure => simp [intOf]; omega
          · have q1 : 48 ≤ b := by simpa using c1
            have q2 : b ≤ 57 := by simpa using c2
            have HN : Hid (10 * z + (b - 48) = (fdg (s.data.toList.take (i + 1)) : Nat)) := Lib.hid (by rw [HNX.out, if_pos (by have := HBB.out; omega)]; have := HZ'.out; have := HBB.out; omega)
            go_wp2_with fail
            go_round
            case rel => exact ⟨i + 1, hlt, by rw [show ((i + 1 : Nat) : Int) = (i : Int) + 1 by omega], _, HN.out, rfl⟩
            case measure => simp [intOf]; omega
        · obtain rfl : i = s.size := by omega
          have hzz : z = Z := by
            rw [hz', ← HZ.out]
            congr 2
            rw [show s.size = s.data.toList.length by simp, List.take_length]
          clear hz'
          subst hzz
          go_wp2_with (first | (go_at_call 51; (with_reducible refine (rof_v HO _).mono ?_); rintro e w1 ⟨rfl, ⟨x3, rfl⟩⟩) | (go_at_call 62; (with_reducible refine (rNaN_c _).mono ?_); rintro e w1 ⟨rfl, ⟨x5, rfl⟩⟩))
          go_returns
          exact ⟨rfl, (by repeat' (first | exact Plus.refl _ | refine Plus.alloc ?_ _ | refine Plus.plus ?_ _ | refine Plus.drew ?_ | refine Plus.drewN ?_ _ | refine Plus.setCell ?_ (by simp) _))⟩

set_option maxRecDepth 100000 in
set_option maxHeartbeats 16000000 in
theorem rparse_neq (s : ByteArray) (w : World) (HT2 : Hid ((⟨(txtR 2 0).toArray⟩ : ByteArray) = ⟨#[78, 97, 78]⟩)) (HT3 : Hid ((⟨(txtR 3 0).toArray⟩ : ByteArray) = ⟨#[73, 110, 102, 105, 110, 105, 116, 121]⟩)) (HT4 : Hid ((⟨(txtR 4 0).toArray⟩ : ByteArray) = ⟨#[45, 73, 110, 102, 105, 110, 105, 116, 121]⟩)) (h2 : (([78, 97, 78] : List UInt8) == s.toList) = false) (h3 : (([73, 110, 102, 105, 110, 105, 116, 121] : List UInt8) == s.toList) = false) (h4 : (([45, 73, 110, 102, 105, 110, 105, 116, 121] : List UInt8) == s.toList) = false) (hz : 0 < s.size) (h45 : (((s[0]'hz).toNat : Int) == 45) = true) (d18 : decide ((s.size : Int) < 18) = true) (Z : Int) (HZ : Hid ((fdg s.data.toList : Int) = Z)) (z0 : 0 ≤ Z) (z1 : Z < 1000000000000000000) (k m : Int) (HO : Hid (ofS (-Z) = ⟨k, m, true⟩)) (T : ByteArray) (HI : Hid ((⟨(Lib.itoa (-Z)).toArray⟩ : ByteArray) = T)) (hq : (T.toList == s.toList) = true) : Calls Tryd.prog 49 #[.string s] w fun e w' => e = .returned (.tuple #[.agg #[.int .i64 k, .int .i64 m], .bool true]) ∧ Plus w w' := by
  have szp : (0 : Int) < (s.size : Int) := by omega
  go_enter Tryd.func49, Tryd.ntmps49
  go_wp2_with fail
  go_loopw [4] (fun s4 wr => (s4 = .int .i64 2 ∨ s4 = .int .i64 3 ∨ s4 = .int .i64 4 ∨ s4 = .int .i64 5) ∧ Plus (w.alloc (.cells #[.int .i64 0, .int .i64 0] 23)) wr) (fun s4 _ => (5 - intOf s4).toNat)
  case atStart => exact ⟨.inl rfl, Plus.refl _⟩
  case round =>
    obtain ⟨hs4, hp⟩ := hrel
    obtain ⟨x0, rfl⟩ := hp
    rcases hs4 with rfl | rfl | rfl | rfl
    · go_wp2_with (first | (go_at_call 72; (with_reducible refine (kind_c _ _).mono ?_); rintro e w1 ⟨rfl, ⟨x1, rfl⟩⟩) | (go_at_call 53; (with_reducible refine (rtext_v (HT2) _).mono ?_); rintro e w1 ⟨rfl, ⟨x2, rfl⟩⟩))
      go_roundw
      case rel => exact ⟨.inr (.inl rfl), (by repeat' (first | exact Plus.refl _ | refine Plus.alloc ?_ _ | refine Plus.plus ?_ _ | refine Plus.drew ?_ | refine Plus.drewN ?_ _))⟩
      case measure => decide
    · go_wp2_with (first | (go_at_call 72; (with_reducible refine (kind_c _ _).mono ?_); rintro e w1 ⟨rfl, ⟨x1, rfl⟩⟩) | (go_at_call 53; (with_reducible refine (rtext_v (HT3) _).mono ?_); rintro e w1 ⟨rfl, ⟨x2, rfl⟩⟩))
      go_roundw
      case rel => exact ⟨.inr (.inr (.inl rfl)), (by repeat' (first | exact Plus.refl _ | refine Plus.alloc ?_ _ | refine Plus.plus ?_ _ | refine Plus.drew ?_ | refine Plus.drewN ?_ _))⟩
      case measure => decide
    · go_wp2_with (first | (go_at_call 72; (with_reducible refine (kind_c _ _).mono ?_); rintro e w1 ⟨rfl, ⟨x1, rfl⟩⟩) | (go_at_call 53; (with_reducible refine (rtext_v (HT4) _).mono ?_); rintro e w1 ⟨rfl, ⟨x2, rfl⟩⟩))
      go_roundw
      case rel => exact ⟨.inr (.inr (.inr rfl)), (by repeat' (first | exact Plus.refl _ | refine Plus.alloc ?_ _ | refine Plus.plus ?_ _ | refine Plus.drew ?_ | refine Plus.drewN ?_ _))⟩
      case measure => decide
    · go_wp2_with fail
      go_loop [5, 6] (fun s5 s6 => PzRel s s5 s6) (fun _ s6 => ((s.size : Int) - intOf s6).toNat)
      case atStart => exact ⟨0, by omega, rfl, 0, rfl, rfl⟩
      case round =>
        obtain ⟨i, hi, rfl, z, hz', rfl⟩ := hrel
        by_cases hlt : i < s.size
        · have hi16 : i ≤ 16 := by have : (s.size : Int) < 18 := by simpa using d18
                                   omega
          have hzb : z < 10000000000000000 := by have := fdg_bd (s := s) hi16; omega
          have hz0 : 0 ≤ z := by omega
          have hbt := (s[i]'hlt).toNat_lt
          have HNX := Lib.hid (fdg_next hlt)
          have HZ' := Lib.hid hz'
          clear hz'
          obtain ⟨b, hb⟩ : ∃ b : Int, ((s[i]'hlt).toNat : Int) = b := ⟨_, rfl⟩
          have HBB := Lib.hid hb
          have hb0 : 0 ≤ b := by omega
          have hb1 : b < 256 := by omega
          have hcs : decide (48 ≤ b) = false ∨ decide (48 ≤ b) = true ∧ decide (b ≤ 57) = false ∨ decide (48 ≤ b) = true ∧ decide (b ≤ 57) = true := by
            simp
            omega
          rcases hcs with c1 | ⟨c1, c2⟩ | ⟨c1, c2⟩
          · have HN : Hid (z = (fdg (s.data.toList.take (i + 1)) : Nat)) := Lib.hid (by rw [HNX.out, if_neg (by have := HBB.out; simp at c1; omega)]; exact HZ'.out)
            go_wp2_with fail
            go_round
            case rel => exact ⟨i + 1, hlt, by rw [show ((i + 1 : Nat) : Int) = (i : Int) + 1 by omega], _, HN.out, rfl⟩
            case measure => simp [intOf]; omega
          · have HN : Hid (z = (fdg (s.data.toList.take (i + 1)) : Nat)) := Lib.hid (by rw [HNX.out, if_neg (by have := HBB.out; simp at c1 c2; omega)]; exact HZ'.out)
            go_wp2_with fail
            go_round
            case rel => exact ⟨i + 1, hlt, by rw [show ((i + 1 : Nat) : Int) = (i : Int) + 1 by omega], _, HN.out, rfl⟩
            case measure => simp [intOf]; omega
          · have q1 : 48 ≤ b := by simpa using c1
            have q2 : b ≤ 57 := by simpa using c2
            have HN : Hid (10 * z + (b - 48) = (fdg (s.data.toList.take (i + 1)) : Nat)) := Lib.hid (by rw [HNX.out, if_pos (by have := HBB.out; omega)]; have := HZ'.out; have := HBB.out; omega)
            go_wp2_with fail
            go_round
            case rel => exact ⟨i + 1, hlt, by rw [show ((i + 1 : Nat) : Int) = (i : Int) + 1 by omega], _, HN.out, rfl⟩
            case measure => simp [intOf]; omega
        · obtain rfl : i = s.size := by omega
          have hzz : z = Z := by
            rw [hz', ← HZ.out]
            congr 2
            rw [show s.size = s.data.toList.length by simp, List.take_length]
          clear hz'
          subst hzz
          go_wp2_with (first | (go_at_call 51; (with_reducible refine (rof_v HO _).mono ?_); rintro e w1 ⟨rfl, ⟨x3, rfl⟩⟩) | (go_at_call 62; (with_reducible refine (rNaN_c _).mono ?_); rintro e w1 ⟨rfl, ⟨x5, rfl⟩⟩) | (go_at_call 78; (with_reducible refine (rdec_v (by omega) (by omega) HI _).mono ?_); rintro e w1 ⟨rfl, ⟨x4, rfl⟩⟩))
          go_returns
          exact ⟨rfl, (by repeat' (first | exact Plus.refl _ | refine Plus.alloc ?_ _ | refine Plus.plus ?_ _ | refine Plus.drew ?_ | refine Plus.drewN ?_ _ | refine Plus.setCell ?_ (by simp) _))⟩

set_option maxRecDepth 100000 in
set_option maxHeartbeats 16000000 in
theorem rparse_nne (s : ByteArray) (w : World) (HT2 : Hid ((⟨(txtR 2 0).toArray⟩ : ByteArray) = ⟨#[78, 97, 78]⟩)) (HT3 : Hid ((⟨(txtR 3 0).toArray⟩ : ByteArray) = ⟨#[73, 110, 102, 105, 110, 105, 116, 121]⟩)) (HT4 : Hid ((⟨(txtR 4 0).toArray⟩ : ByteArray) = ⟨#[45, 73, 110, 102, 105, 110, 105, 116, 121]⟩)) (h2 : (([78, 97, 78] : List UInt8) == s.toList) = false) (h3 : (([73, 110, 102, 105, 110, 105, 116, 121] : List UInt8) == s.toList) = false) (h4 : (([45, 73, 110, 102, 105, 110, 105, 116, 121] : List UInt8) == s.toList) = false) (hz : 0 < s.size) (h45 : (((s[0]'hz).toNat : Int) == 45) = true) (d18 : decide ((s.size : Int) < 18) = true) (Z : Int) (HZ : Hid ((fdg s.data.toList : Int) = Z)) (z0 : 0 ≤ Z) (z1 : Z < 1000000000000000000) (k m : Int) (HO : Hid (ofS (-Z) = ⟨k, m, true⟩)) (T : ByteArray) (HI : Hid ((⟨(Lib.itoa (-Z)).toArray⟩ : ByteArray) = T)) (hq : (T.toList == s.toList) = false) : Calls Tryd.prog 49 #[.string s] w fun e w' => e = .returned (.tuple #[.agg #[.int .i64 2, .int .i64 0], .bool false]) ∧ Plus w w' := by
  have szp : (0 : Int) < (s.size : Int) := by omega
  go_enter Tryd.func49, Tryd.ntmps49
  go_wp2_with fail
  go_loopw [4] (fun s4 wr => (s4 = .int .i64 2 ∨ s4 = .int .i64 3 ∨ s4 = .int .i64 4 ∨ s4 = .int .i64 5) ∧ Plus (w.alloc (.cells #[.int .i64 0, .int .i64 0] 23)) wr) (fun s4 _ => (5 - intOf s4).toNat)
  case atStart => exact ⟨.inl rfl, Plus.refl _⟩
  case round =>
    obtain ⟨hs4, hp⟩ := hrel
    obtain ⟨x0, rfl⟩ := hp
    rcases hs4 with rfl | rfl | rfl | rfl
    · go_wp2_with (first | (go_at_call 72; (with_reducible refine (kind_c _ _).mono ?_); rintro e w1 ⟨rfl, ⟨x1, rfl⟩⟩) | (go_at_call 53; (with_reducible refine (rtext_v (HT2) _).mono ?_); rintro e w1 ⟨rfl, ⟨x2, rfl⟩⟩))
      go_roundw
      case rel => exact ⟨.inr (.inl rfl), (by repeat' (first | exact Plus.refl _ | refine Plus.alloc ?_ _ | refine Plus.plus ?_ _ | refine Plus.drew ?_ | refine Plus.drewN ?_ _))⟩
      case measure => decide
    · go_wp2_with (first | (go_at_call 72; (with_reducible refine (kind_c _ _).mono ?_); rintro e w1 ⟨rfl, ⟨x1, rfl⟩⟩) | (go_at_call 53; (with_reducible refine (rtext_v (HT3) _).mono ?_); rintro e w1 ⟨rfl, ⟨x2, rfl⟩⟩))
      go_roundw
      case rel => exact ⟨.inr (.inr (.inl rfl)), (by repeat' (first | exact Plus.refl _ | refine Plus.alloc ?_ _ | refine Plus.plus ?_ _ | refine Plus.drew ?_ | refine Plus.drewN ?_ _))⟩
      case measure => decide
    · go_wp2_with (first | (go_at_call 72; (with_reducible refine (kind_c _ _).mono ?_); rintro e w1 ⟨rfl, ⟨x1, rfl⟩⟩) | (go_at_call 53; (with_reducible refine (rtext_v (HT4) _).mono ?_); rintro e w1 ⟨rfl, ⟨x2, rfl⟩⟩))
      go_roundw
      case rel => exact ⟨.inr (.inr (.inr rfl)), (by repeat' (first | exact Plus.refl _ | refine Plus.alloc ?_ _ | refine Plus.plus ?_ _ | refine Plus.drew ?_ | refine Plus.drewN ?_ _))⟩
      case measure => decide
    · go_wp2_with fail
      go_loop [5, 6] (fun s5 s6 => PzRel s s5 s6) (fun _ s6 => ((s.size : Int) - intOf s6).toNat)
      case atStart => exact ⟨0, by omega, rfl, 0, rfl, rfl⟩
      case round =>
        obtain ⟨i, hi, rfl, z, hz', rfl⟩ := hrel
        by_cases hlt : i < s.size
        · have hi16 : i ≤ 16 := by have : (s.size : Int) < 18 := by simpa using d18
                                   omega
          have hzb : z < 10000000000000000 := by have := fdg_bd (s := s) hi16; omega
          have hz0 : 0 ≤ z := by omega
          have hbt := (s[i]'hlt).toNat_lt
          have HNX := Lib.hid (fdg_next hlt)
          have HZ' := Lib.hid hz'
          clear hz'
          obtain ⟨b, hb⟩ : ∃ b : Int, ((s[i]'hlt).toNat : Int) = b := ⟨_, rfl⟩
          have HBB := Lib.hid hb
          have hb0 : 0 ≤ b := by omega
          have hb1 : b < 256 := by omega
          have hcs : decide (48 ≤ b) = false ∨ decide (48 ≤ b) = true ∧ decide (b ≤ 57) = false ∨ decide (48 ≤ b) = true ∧ decide (b ≤ 57) = true := by
            simp
            omega
          rcases hcs with c1 | ⟨c1, c2⟩ | ⟨c1, c2⟩
          · have HN : Hid (z = (fdg (s.data.toList.take (i + 1)) : Nat)) := Lib.hid (by rw [HNX.out, if_neg (by have := HBB.out; simp at c1; omega)]; exact HZ'.out)
            go_wp2_with fail
            go_round
            case rel => exact ⟨i + 1, hlt, by rw [show ((i + 1 : Nat) : Int) = (i : Int) + 1 by omega], _, HN.out, rfl⟩
            case measure => simp [intOf]; omega
          · have HN : Hid (z = (fdg (s.data.toList.take (i + 1)) : Nat)) := Lib.hid (by rw [HNX.out, if_neg (by have := HBB.out; simp at c1 c2; omega)]; exact HZ'.out)
            go_wp2_with fail
            go_round
            case rel => exact ⟨i + 1, hlt, by rw [show ((i + 1 : Nat) : Int) = (i : Int) + 1 by omega], _, HN.out, rfl⟩
            case measure => simp [intOf]; omega
          · have q1 : 48 ≤ b := by simpa using c1
            have q2 : b ≤ 57 := by simpa using c2
            have HN : Hid (10 * z + (b - 48) = (fdg (s.data.toList.take (i + 1)) : Nat)) := Lib.hid (by rw [HNX.out, if_pos (by have := HBB.out; omega)]; have := HZ'.out; have := HBB.out; omega)
            go_wp2_with fail
            go_round
            case rel => exact ⟨i + 1, hlt, by rw [show ((i + 1 : Nat) : Int) = (i : Int) + 1 by omega], _, HN.out, rfl⟩
            case measure => simp [intOf]; omega
        · obtain rfl : i = s.size := by omega
          have hzz : z = Z := by
            rw [hz', ← HZ.out]
            congr 2
            rw [show s.size = s.data.toList.length by simp, List.take_length]
          clear hz'
          subst hzz
          go_wp2_with (first | (go_at_call 51; (with_reducible refine (rof_v HO _).mono ?_); rintro e w1 ⟨rfl, ⟨x3, rfl⟩⟩) | (go_at_call 62; (with_reducible refine (rNaN_c _).mono ?_); rintro e w1 ⟨rfl, ⟨x5, rfl⟩⟩) | (go_at_call 78; (with_reducible refine (rdec_v (by omega) (by omega) HI _).mono ?_); rintro e w1 ⟨rfl, ⟨x4, rfl⟩⟩))
          go_returns
          exact ⟨rfl, (by repeat' (first | exact Plus.refl _ | refine Plus.alloc ?_ _ | refine Plus.plus ?_ _ | refine Plus.drew ?_ | refine Plus.drewN ?_ _ | refine Plus.setCell ?_ (by simp) _))⟩

set_option maxRecDepth 100000 in
set_option maxHeartbeats 16000000 in
theorem rparse_lp (s : ByteArray) (w : World) (HT2 : Hid ((⟨(txtR 2 0).toArray⟩ : ByteArray) = ⟨#[78, 97, 78]⟩)) (HT3 : Hid ((⟨(txtR 3 0).toArray⟩ : ByteArray) = ⟨#[73, 110, 102, 105, 110, 105, 116, 121]⟩)) (HT4 : Hid ((⟨(txtR 4 0).toArray⟩ : ByteArray) = ⟨#[45, 73, 110, 102, 105, 110, 105, 116, 121]⟩)) (h2 : (([78, 97, 78] : List UInt8) == s.toList) = false) (h3 : (([73, 110, 102, 105, 110, 105, 116, 121] : List UInt8) == s.toList) = false) (h4 : (([45, 73, 110, 102, 105, 110, 105, 116, 121] : List UInt8) == s.toList) = false) (hz : 0 < s.size) (h45 : (((s[0]'hz).toNat : Int) == 45) = false) (d18 : decide ((s.size : Int) < 18) = false) (k m : Int) (HO : Hid (ofS (0) = ⟨k, m, true⟩)) (T : ByteArray) (HI : Hid ((⟨(Lib.itoa (0)).toArray⟩ : ByteArray) = T)) (hq : (T.toList == s.toList) = false) : Calls Tryd.prog 49 #[.string s] w fun e w' => e = .returned (.tuple #[.agg #[.int .i64 2, .int .i64 0], .bool false]) ∧ Plus w w' := by
  have szp : (0 : Int) < (s.size : Int) := by omega
  go_enter Tryd.func49, Tryd.ntmps49
  go_wp2_with fail
  go_loopw [4] (fun s4 wr => (s4 = .int .i64 2 ∨ s4 = .int .i64 3 ∨ s4 = .int .i64 4 ∨ s4 = .int .i64 5) ∧ Plus (w.alloc (.cells #[.int .i64 0, .int .i64 0] 23)) wr) (fun s4 _ => (5 - intOf s4).toNat)
  case atStart => exact ⟨.inl rfl, Plus.refl _⟩
  case round =>
    obtain ⟨hs4, hp⟩ := hrel
    obtain ⟨x0, rfl⟩ := hp
    rcases hs4 with rfl | rfl | rfl | rfl
    · go_wp2_with (first | (go_at_call 72; (with_reducible refine (kind_c _ _).mono ?_); rintro e w1 ⟨rfl, ⟨x1, rfl⟩⟩) | (go_at_call 53; (with_reducible refine (rtext_v (HT2) _).mono ?_); rintro e w1 ⟨rfl, ⟨x2, rfl⟩⟩))
      go_roundw
      case rel => exact ⟨.inr (.inl rfl), (by repeat' (first | exact Plus.refl _ | refine Plus.alloc ?_ _ | refine Plus.plus ?_ _ | refine Plus.drew ?_ | refine Plus.drewN ?_ _))⟩
      case measure => decide
    · go_wp2_with (first | (go_at_call 72; (with_reducible refine (kind_c _ _).mono ?_); rintro e w1 ⟨rfl, ⟨x1, rfl⟩⟩) | (go_at_call 53; (with_reducible refine (rtext_v (HT3) _).mono ?_); rintro e w1 ⟨rfl, ⟨x2, rfl⟩⟩))
      go_roundw
      case rel => exact ⟨.inr (.inr (.inl rfl)), (by repeat' (first | exact Plus.refl _ | refine Plus.alloc ?_ _ | refine Plus.plus ?_ _ | refine Plus.drew ?_ | refine Plus.drewN ?_ _))⟩
      case measure => decide
    · go_wp2_with (first | (go_at_call 72; (with_reducible refine (kind_c _ _).mono ?_); rintro e w1 ⟨rfl, ⟨x1, rfl⟩⟩) | (go_at_call 53; (with_reducible refine (rtext_v (HT4) _).mono ?_); rintro e w1 ⟨rfl, ⟨x2, rfl⟩⟩))
      go_roundw
      case rel => exact ⟨.inr (.inr (.inr rfl)), (by repeat' (first | exact Plus.refl _ | refine Plus.alloc ?_ _ | refine Plus.plus ?_ _ | refine Plus.drew ?_ | refine Plus.drewN ?_ _))⟩
      case measure => decide
    · go_wp2_with fail
      go_loop [5, 6] (fun s5 s6 => s5 = .int .i64 0 ∧ s6 = .int .i64 0) (fun _ _ => 0)
      case atStart => exact ⟨rfl, rfl⟩
      case round =>
        obtain ⟨rfl, rfl⟩ := hrel
        go_wp2_with (first | (go_at_call 51; (with_reducible refine (rof_v HO _).mono ?_); rintro e w1 ⟨rfl, ⟨x3, rfl⟩⟩) | (go_at_call 62; (with_reducible refine (rNaN_c _).mono ?_); rintro e w1 ⟨rfl, ⟨x5, rfl⟩⟩) | (go_at_call 78; (with_reducible refine (rdec_v (by omega) (by omega) HI _).mono ?_); rintro e w1 ⟨rfl, ⟨x4, rfl⟩⟩))
        go_returns
        exact ⟨rfl, (by repeat' (first | exact Plus.refl _ | refine Plus.alloc ?_ _ | refine Plus.plus ?_ _ | refine Plus.drew ?_ | refine Plus.drewN ?_ _ | refine Plus.setCell ?_ (by simp) _))⟩

set_option maxRecDepth 100000 in
set_option maxHeartbeats 16000000 in
theorem rparse_ln (s : ByteArray) (w : World) (HT2 : Hid ((⟨(txtR 2 0).toArray⟩ : ByteArray) = ⟨#[78, 97, 78]⟩)) (HT3 : Hid ((⟨(txtR 3 0).toArray⟩ : ByteArray) = ⟨#[73, 110, 102, 105, 110, 105, 116, 121]⟩)) (HT4 : Hid ((⟨(txtR 4 0).toArray⟩ : ByteArray) = ⟨#[45, 73, 110, 102, 105, 110, 105, 116, 121]⟩)) (h2 : (([78, 97, 78] : List UInt8) == s.toList) = false) (h3 : (([73, 110, 102, 105, 110, 105, 116, 121] : List UInt8) == s.toList) = false) (h4 : (([45, 73, 110, 102, 105, 110, 105, 116, 121] : List UInt8) == s.toList) = false) (hz : 0 < s.size) (h45 : (((s[0]'hz).toNat : Int) == 45) = true) (d18 : decide ((s.size : Int) < 18) = false) (k m : Int) (HO : Hid (ofS (0) = ⟨k, m, true⟩)) (T : ByteArray) (HI : Hid ((⟨(Lib.itoa (0)).toArray⟩ : ByteArray) = T)) (hq : (T.toList == s.toList) = false) : Calls Tryd.prog 49 #[.string s] w fun e w' => e = .returned (.tuple #[.agg #[.int .i64 2, .int .i64 0], .bool false]) ∧ Plus w w' := by
  have szp : (0 : Int) < (s.size : Int) := by omega
  go_enter Tryd.func49, Tryd.ntmps49
  go_wp2_with fail
  go_loopw [4] (fun s4 wr => (s4 = .int .i64 2 ∨ s4 = .int .i64 3 ∨ s4 = .int .i64 4 ∨ s4 = .int .i64 5) ∧ Plus (w.alloc (.cells #[.int .i64 0, .int .i64 0] 23)) wr) (fun s4 _ => (5 - intOf s4).toNat)
  case atStart => exact ⟨.inl rfl, Plus.refl _⟩
  case round =>
    obtain ⟨hs4, hp⟩ := hrel
    obtain ⟨x0, rfl⟩ := hp
    rcases hs4 with rfl | rfl | rfl | rfl
    · go_wp2_with (first | (go_at_call 72; (with_reducible refine (kind_c _ _).mono ?_); rintro e w1 ⟨rfl, ⟨x1, rfl⟩⟩) | (go_at_call 53; (with_reducible refine (rtext_v (HT2) _).mono ?_); rintro e w1 ⟨rfl, ⟨x2, rfl⟩⟩))
      go_roundw
      case rel => exact ⟨.inr (.inl rfl), (by repeat' (first | exact Plus.refl _ | refine Plus.alloc ?_ _ | refine Plus.plus ?_ _ | refine Plus.drew ?_ | refine Plus.drewN ?_ _))⟩
      case measure => decide
    · go_wp2_with (first | (go_at_call 72; (with_reducible refine (kind_c _ _).mono ?_); rintro e w1 ⟨rfl, ⟨x1, rfl⟩⟩) | (go_at_call 53; (with_reducible refine (rtext_v (HT3) _).mono ?_); rintro e w1 ⟨rfl, ⟨x2, rfl⟩⟩))
      go_roundw
      case rel => exact ⟨.inr (.inr (.inl rfl)), (by repeat' (first | exact Plus.refl _ | refine Plus.alloc ?_ _ | refine Plus.plus ?_ _ | refine Plus.drew ?_ | refine Plus.drewN ?_ _))⟩
      case measure => decide
    · go_wp2_with (first | (go_at_call 72; (with_reducible refine (kind_c _ _).mono ?_); rintro e w1 ⟨rfl, ⟨x1, rfl⟩⟩) | (go_at_call 53; (with_reducible refine (rtext_v (HT4) _).mono ?_); rintro e w1 ⟨rfl, ⟨x2, rfl⟩⟩))
      go_roundw
      case rel => exact ⟨.inr (.inr (.inr rfl)), (by repeat' (first | exact Plus.refl _ | refine Plus.alloc ?_ _ | refine Plus.plus ?_ _ | refine Plus.drew ?_ | refine Plus.drewN ?_ _))⟩
      case measure => decide
    · go_wp2_with fail
      go_loop [5, 6] (fun s5 s6 => s5 = .int .i64 0 ∧ s6 = .int .i64 0) (fun _ _ => 0)
      case atStart => exact ⟨rfl, rfl⟩
      case round =>
        obtain ⟨rfl, rfl⟩ := hrel
        go_wp2_with (first | (go_at_call 51; (with_reducible refine (rof_v HO _).mono ?_); rintro e w1 ⟨rfl, ⟨x3, rfl⟩⟩) | (go_at_call 62; (with_reducible refine (rNaN_c _).mono ?_); rintro e w1 ⟨rfl, ⟨x5, rfl⟩⟩) | (go_at_call 78; (with_reducible refine (rdec_v (by omega) (by omega) HI _).mono ?_); rintro e w1 ⟨rfl, ⟨x4, rfl⟩⟩))
        go_returns
        exact ⟨rfl, (by repeat' (first | exact Plus.refl _ | refine Plus.alloc ?_ _ | refine Plus.plus ?_ _ | refine Plus.drew ?_ | refine Plus.drewN ?_ _ | refine Plus.setCell ?_ (by simp) _))⟩
end Go.Proofs.YtdmodkmliagiiaaDoor
