/- Contract: isCount. -/
import Derived.Test.YtmlfcmmgoiigkaaGreatDoorGD
namespace Go.Proofs.YtmlfcmmgoiigkaaGreatDoor.Bg
open Go.RowKit


theorem toList_data (s : ByteArray) : s.toList = s.data.toList := ByteArray.toList_eq s
theorem byte_at (s : ByteArray) (k : Nat) (h : k < s.size) : s.data.toList[k]? = some s[k] := by
  rw [List.getElem?_eq_getElem (by simpa using h)]
  rfl
theorem all_take {l : List UInt8} {k : Nat} (h : k < l.length) (ha : (l.take k).all isD = true) (hd : isD l[k] = true) : (l.take (k + 1)).all isD = true := by
  rw [List.take_succ_eq_append_getElem h, List.all_append, ha]
  simp [hd]
theorem all_not {l : List UInt8} {k : Nat} (h : k < l.length) (hd : isD l[k] = false) : l.all isD = false := by
  rw [List.all_eq_false]
  exact ⟨_, List.getElem_mem h, by simp [hd]⟩

set_option maxRecDepth 100000 in
set_option maxHeartbeats 4000000 in
theorem isCount_c (s : ByteArray) (w : World) (hs : s.size ≤ 9223372036854775807) :
    Calls Tryz.prog 170 #[.string s] w fun e w' => e = .returned (.bool (isCnt s.data.toList)) ∧ w = w' := by
  have etl := toList_data s
  by_cases h0 : s.toList = []
  · have hc : isCnt s.data.toList = false := by rw [← etl, h0]; rfl
    have HC := Lib.hid hc
    clear hc etl
    go_enter Tryz.func170, Tryz.ntmps170
    go_wp2
    go_ret
    exact ⟨by rw [HC.out]; rfl, rfl⟩
  · have hz : 0 < s.size := by
      rcases Nat.eq_zero_or_pos s.size with h | h
      · exact absurd (by rw [etl]; exact List.eq_nil_of_length_eq_zero (by simpa using h)) h0
      · exact h
    have he : s.toList.isEmpty = false := by
      cases hl : s.toList with
      | nil => exact absurd hl h0
      | cons _ _ => rfl
    have hhead : s.data.toList.head? = some s[0] := by
      rw [List.head?_eq_getElem?, byte_at s 0 hz]
    by_cases hbad : s[0].toNat = 48 ∧ (s.toList == [48]) = false
    · obtain ⟨e1, e2⟩ := hbad
      have hc : isCnt s.data.toList = false := by
        have e3 : s[0] = 48 := UInt8.toNat_inj.1 e1
        unfold isCnt
        rw [hhead, e3, ← etl, e2]
        simp
      have HC := Lib.hid hc
      have b1 : ((s[0].toNat : Int) == 48) = true := by simp; omega
      have b2 : (s.toList != [48]) = true := by rw [bne, e2]; rfl
      clear hc etl hhead e1
      go_enter Tryz.func170, Tryz.ntmps170
      go_wp2
      go_ret
      exact ⟨by rw [HC.out]; rfl, rfl⟩
    · have hpre : (s.data.toList.head? != some 48 || s.data.toList == [48]) = true := by
        rw [hhead, ← etl]
        by_cases e2 : (s.toList == [48]) = true
        · rw [e2]; simp
        · have e1 : s[0].toNat ≠ 48 := fun e => hbad ⟨e, by simpa using e2⟩
          have : s[0] ≠ 48 := fun e => e1 (by rw [e]; rfl)
          simp [this]
      have hne : s.data.toList.isEmpty = false := by rw [← etl]; exact he
      have HPRE := Lib.hid hpre
      have HNE := Lib.hid hne
      have hb : ((s[0].toNat : Int) == 48) = false ∨ ((s[0].toNat : Int) == 48) = true ∧ (s.toList == [48]) = true := by
        by_cases e1 : s[0].toNat = 48
        · refine .inr ⟨by simp; omega, ?_⟩
          cases h : (s.toList == [48])
          · exact absurd ⟨e1, h⟩ hbad
          · rfl
        · exact .inl (by simp; omega)
      clear hpre hne hhead hbad etl
      rcases hb with b1 | ⟨b1, b2⟩
      all_goals
        go_enter Tryz.func170, Tryz.ntmps170
        go_wp2
        go_loop [17] (fun i => ∃ k : Nat, k ≤ s.size ∧ i = .int .i64 k ∧ Hid ((s.data.toList.take k).all isD = true)) (fun i => ((s.size : Int) - intOf i).toNat)
        case atStart => exact ⟨0, by omega, rfl, Lib.hid rfl⟩
        case round =>
          obtain ⟨k, hk, rfl, hA⟩ := hrel
          by_cases hlt : k < s.size
          · have hkl : k < s.data.toList.length := by simpa using hlt
            have hx : s.data.toList[k] = s[k] := rfl
            by_cases d1 : s[k].toNat < 48
            · have HC : Hid (isCnt s.data.toList = false) := Lib.hid (by unfold isCnt; rw [all_not hkl (by rw [hx]; simp [isD]; omega)]; simp)
              clear hx
              have t1 : decide ((s[k].toNat : Int) < 48) = true := by simp; omega
              go_wp2
              go_ret
              exact ⟨by rw [HC.out]; rfl, rfl⟩
            · by_cases d2 : 57 < s[k].toNat
              · have HC : Hid (isCnt s.data.toList = false) := Lib.hid (by unfold isCnt; rw [all_not hkl (by rw [hx]; simp [isD]; omega)]; simp)
                clear hx
                have t1 : decide ((s[k].toNat : Int) < 48) = false := by simp; omega
                have t2 : decide (57 < (s[k].toNat : Int)) = true := by simp; omega
                go_wp2
                go_ret
                exact ⟨by rw [HC.out]; rfl, rfl⟩
              · have HS : Hid ((s.data.toList.take (k + 1)).all isD = true) := Lib.hid (all_take hkl hA.out (by rw [hx]; simp [isD]; omega))
                clear hx
                have t1 : decide ((s[k].toNat : Int) < 48) = false := by simp; omega
                have t2 : decide (57 < (s[k].toNat : Int)) = false := by simp; omega
                go_wp2
                go_round
                case rel => exact ⟨k + 1, hlt, by rw [show ((k + 1 : Nat) : Int) = (k : Int) + 1 by omega], HS⟩
                case measure => simp [intOf]; omega
          · obtain rfl : k = s.size := by omega
            have HC : Hid (isCnt s.data.toList = true) := Lib.hid (by
              have e := hA.out
              rw [List.take_of_length_le (by simp)] at e
              unfold isCnt
              rw [e, HPRE.out, HNE.out]
              rfl)
            go_wp2
            go_ret
            exact ⟨by rw [HC.out]; rfl, rfl⟩
end Go.Proofs.YtmlfcmmgoiigkaaGreatDoor.Bg
