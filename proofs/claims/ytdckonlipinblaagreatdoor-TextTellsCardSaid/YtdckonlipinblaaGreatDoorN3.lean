/- Contracts: Key, and the small functions of texts. -/
import Derived.Test.YtdckonlipinblaaGreatDoorN2
namespace Go.Proofs.YtdckonlipinblaaGreatDoor
open Go.RowKit


/-- The key that an answer of Parse is, if it is one. -/
def keyB (a : Ans) : Bool := a.ok && (a.k == 0) && decide (0 ≤ a.n) && decide (a.n ≤ 4294967294)
set_option maxRecDepth 100000 in
set_option maxHeartbeats 4000000 in
theorem key_h (A : Option Addr) (xs : List Nat) (n c : Nat) (w : World) (hL : Hid (Lai w)) (h : Hid (Ar .u16 65536 w A xs n c)) (hs : n ≤ 1099511627776) (k m : Int) (ok : Bool) (ha : Hid (parS (plS xs).data.toList = ⟨k, m, ok⟩)) (r : Int) (b : Bool)
    (hb : Hid ((ok = true ∧ k = 0 ∧ 0 ≤ m ∧ m ≤ 4294967294) ∧ r = m ∧ b = true ∨ ¬ (ok = true ∧ k = 0 ∧ 0 ≤ m ∧ m ≤ 4294967294) ∧ r = 0 ∧ b = false)) :
    Calls Tryz.prog 9 #[.slice A n c] w fun e w' => e = .returned (.tuple #[.int .i64 r, .bool b]) ∧ Plus w w' := by
  have hsz : (plS xs).size ≤ 281474976710656 := by
    unfold plS
    split
    · rw [byts_size, ← h.out.len]; omega
    · decide
  rcases hb.out with ⟨⟨rfl, rfl, m0, m1⟩, rfl, rfl⟩ | ⟨hn, rfl, rfl⟩
  · go_enter Tryz.func9, Tryz.ntmps9
    go_wp2_with (first
      | (go_at_call 5; refine (plain_c _ _ _ _ _ h.out (by omega)).mono ?_; rintro e w1 ⟨rfl, ⟨x1, rfl⟩⟩)
      | (go_at_call 24; refine (parse_c _ hsz _ (hL.out.plus (by repeat' (first | exact Plus.refl _ | refine Plus.alloc ?_ _ | refine Plus.plus ?_ _ | refine Plus.drew ?_ | refine Plus.drewN ?_ _)))).mono ?_; rintro e w1 ⟨rfl, ⟨x2, rfl⟩⟩; rw [ha.out]))
    go_returns
    refine ⟨rfl, ?_⟩
    repeat' (first | exact Plus.refl _ | refine Plus.alloc ?_ _ | refine Plus.plus ?_ _ | refine Plus.drew ?_ | refine Plus.drewN ?_ _)
  · have h4 : ok = false ∨ ok = true ∧ (k ≠ 0 ∨ k = 0 ∧ (m < 0 ∨ 0 ≤ m ∧ 4294967294 < m)) := by
      cases ok
      · exact .inl rfl
      · right
        refine ⟨rfl, ?_⟩
        by_cases q : k = 0
        · right
          refine ⟨q, ?_⟩
          by_cases q2 : m < 0
          · exact .inl q2
          · right
            refine ⟨by omega, ?_⟩
            apply Int.lt_of_not_ge
            intro q3
            exact hn ⟨rfl, q, by omega, q3⟩
        · exact .inl q
    clear hn
    rcases h4 with rfl | ⟨rfl, hk | ⟨rfl, hm | ⟨hm0, hm⟩⟩⟩
    all_goals first | (have hkb := beq_f hk) | skip
    all_goals
      go_enter Tryz.func9, Tryz.ntmps9
      go_wp2_with (first
        | (go_at_call 5; refine (plain_c _ _ _ _ _ h.out (by omega)).mono ?_; rintro e w1 ⟨rfl, ⟨x1, rfl⟩⟩)
        | (go_at_call 24; refine (parse_c _ hsz _ (hL.out.plus (by repeat' (first | exact Plus.refl _ | refine Plus.alloc ?_ _ | refine Plus.plus ?_ _ | refine Plus.drew ?_ | refine Plus.drewN ?_ _)))).mono ?_; rintro e w1 ⟨rfl, ⟨x2, rfl⟩⟩; rw [ha.out]))
      go_returns
      refine ⟨rfl, ?_⟩
      repeat' (first | exact Plus.refl _ | refine Plus.alloc ?_ _ | refine Plus.plus ?_ _ | refine Plus.drew ?_ | refine Plus.drewN ?_ _)
end Go.Proofs.YtdckonlipinblaaGreatDoor
