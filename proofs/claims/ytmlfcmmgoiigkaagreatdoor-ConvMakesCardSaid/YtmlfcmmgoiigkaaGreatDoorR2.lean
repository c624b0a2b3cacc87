/- Contract: renref.Ascii. -/
import Derived.IntWalk
import Derived.Test.YtmlfcmmgoiigkaaGreatDoorNC
import Derived.Test.YtmlfcmmgoiigkaaGreatDoorC6
namespace Go.Proofs.YtmlfcmmgoiigkaaGreatDoor
open Go.RowKit


def AsRel (zs : List Nat) (W : World) (s1 s2 : Value) (wr : World) : Prop :=
  ∃ k : Nat, k ≤ zs.length ∧ s2 = .int .i64 k ∧ wr.ownsRow W.heap.size 88 1 s1 (zs.take k).length (vals .u16 (zs.take k)) ∧ Below W.heap.size W wr
set_option maxRecDepth 100000 in
set_option maxHeartbeats 4000000 in
theorem refAscii_h (s : ByteArray) (hs : s.size ≤ 1048576) (w : World) : Calls Tryz.prog 65 #[.string s] w fun e w' => ∃ v, e = .returned v ∧ w'.ownsRow w.heap.size 88 1 v (nats s).length (vals .u16 (nats s)) ∧ Plus w w' := by
  obtain ⟨i0, hi, hz0, hz1, hz2⟩ := info_parts infoU16
  go_enter Tryz.func65, Tryz.ntmps65
  go_wp2_with fail
  go_loopw [3, 4] (AsRel (nats s) w) (fun _ s4 _ => ((s.size : Int) - intOf s4).toNat)
  case atStart => exact ⟨0, by omega, rfl, World.ownsRow_nil _ _ _ _, Below.refl _ _⟩
  case round =>
    obtain ⟨k, hk, rfl, hown, hB⟩ := hrel
    obtain ⟨z0, rfl⟩ := Plus.of_below hB
    have HL := Lib.hid (nats_len s)
    rw [HL.out] at hk
    have HW := Lib.hid hown
    have htl : ((nats s).take k).length ≤ 1048576 := by rw [List.length_take, HL.out]; omega
    clear hown
    by_cases hlt : k < s.size
    · have HG := Lib.hid (nats_get s k hlt)
      have hb := s[k].toNat_lt
      go_wp2_with (at_builtin; refine wpList_append_own _ rfl _ _ 27 rfl w.heap.size 88 i0 (.int .u16 0) 1 2 Tryz.underlying27 hi hz0 hz1 hz2 rfl (by decide) _ _ _ rfl (own_alloc HW.out _) ⟨w.heap.size + z0.blocks.length, 0, none⟩ 1 1 [.int .u16 (s[k].toNat : Int)] rfl rfl (news_at' _ _ _ _ (by simp [size_plus])) (one_u16 [s[k].toNat]) (by unfold maxLen; omega) (by omega) (by simp [size_plus]; omega) ?_; intro v1 w1 hown1 hgr1 _; have HW2 := Lib.hid hown1; have HG2 := Lib.hid hgr1; clear hown1 hgr1)
      go_roundw
      case rel =>
        refine ⟨k + 1, by rw [HL.out]; omega, by rw [show ((k + 1 : Nat) : Int) = (k : Int) + 1 by omega], ?_, below_own HW.out HG2.out hB (by simp [size_plus])⟩
        have e : (nats s).take (k + 1) = (nats s).take k ++ [s[k].toNat] := by
          rw [List.take_add_one, List.getElem?_eq_getElem (by rw [HL.out]; exact hlt)]
          have q := HG.out
          rw [List.getD_eq_getElem?_getD, List.getElem?_eq_getElem (by rw [HL.out]; exact hlt)] at q
          simp at q
          simp [q]
        rw [e, List.length_append, vals_app]
        exact HW2.out
      case measure => simp [intOf]; omega
    · obtain rfl : k = s.size := by omega
      go_wp2_with fail
      go_returns
      refine ⟨_, rfl, ?_, Plus.of_below hB⟩
      have q := HW.out
      rw [← HL.out, List.take_length] at q
      exact q
theorem refAscii_n (s : ByteArray) (hs : s.size ≤ 1048576) (xs : List Nat) (n : Nat) (hx : Hid (nats s = xs ∧ n = xs.length)) (w : World) : Calls Tryz.prog 65 #[.string s] w fun e w' => ∃ (A : Option Addr) (c : Nat), e = .returned (.slice A n c) ∧ Ar .u16 65536 w' A xs n c ∧ Plus w w' := by
  refine (refAscii_h s hs w).mono ?_
  rintro e w' ⟨v, rfl, q, q4⟩
  obtain ⟨rfl, rfl⟩ := hx.out
  obtain ⟨A, c, rfl, q1, q2, q3⟩ := rd_of_own q
  exact ⟨A, c, rfl, ⟨q3, rfl, q1, q2, nats_U s⟩, q4⟩
end Go.Proofs.YtmlfcmmgoiigkaaGreatDoor
