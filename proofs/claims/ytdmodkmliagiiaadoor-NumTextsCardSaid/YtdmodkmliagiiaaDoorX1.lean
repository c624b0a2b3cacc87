/- Contract: renref.Dec. -/
import Derived.IntWalk
import Derived.WalkSpells
import Derived.WalkLawsBesides
import Derived.Handy
import Derived.Deep.RegionHeld3
import Derived.Deep.DeepCutAuto
import Derived.Deep.QuietTactic
import Derived.BigQuiet
import Derived.Lib.Hide
import Derived.WalkMore
import Derived.Test.YtdmodkmliagiiaaDoorT3
import Derived.Test.YtdmodkmliagiiaaDoorQ2
namespace Go.Proofs.YtdmodkmliagiiaaDoor
open Go.RowKit

theorem conv_cell (d : Nat) (hd : d < 256) (W : World) (g : Nat) (h : W.cell? ⟨g, 0, none⟩ = some (.int .u8 (d : Int))) : (convert 58 9 (.slice (some ⟨g, 0, none⟩) 1 1)).run Tryd.prog W = .ok (.string ⟨#[UInt8.ofNat d]⟩) W := by
  have q := run_convert_bytes_back (P := Tryd.prog) W 58 9 5 ⟨g, 0, none⟩ 1 [UInt8.ofNat d] Tryd.underlying58 Tryd.underlying5 Tryd.underlying9 (fun j hj => by
    have : j = 0 := by simp at hj; exact hj
    subst this
    have e : (UInt8.ofNat d).toNat = d := by rw [UInt8.toNat_ofNat']; omega
    show W.cell? _ = some (.int .u8 (((UInt8.ofNat d).toNat : Nat) : Int))
    rw [e, ← h]
    rfl)
  exact q
theorem conv_one (d : Nat) (hd : d < 256) (v : World) (x : More) : (convert 58 9 (.slice (some ⟨v.heap.size, 0, none⟩) 1 1)).run Tryd.prog (YtdmodkmliagiiaaDoor.plus (v.alloc (.cells #[.int .u8 (d : Int)] 5)) x) = .ok (.string ⟨#[UInt8.ofNat d]⟩) (YtdmodkmliagiiaaDoor.plus (v.alloc (.cells #[.int .u8 (d : Int)] 5)) x) :=
  conv_cell d hd _ _ (by rw [Plus.cell (Plus.is x) _ _ (by rw [World.size_alloc]; exact Nat.lt_succ_self _), World.cell?_alloc_at _ _ _ _ rfl]; rfl)
theorem conv_one0 (d : Nat) (hd : d < 256) (v : World) : (convert 58 9 (.slice (some ⟨v.heap.size, 0, none⟩) 1 1)).run Tryd.prog (v.alloc (.cells #[.int .u8 (d : Int)] 5)) = .ok (.string ⟨#[UInt8.ofNat d]⟩) (v.alloc (.cells #[.int .u8 (d : Int)] 5)) :=
  conv_cell d hd _ _ (by rw [World.cell?_alloc_at _ _ _ _ rfl]; rfl)
set_option maxRecDepth 100000 in
set_option maxHeartbeats 4000000 in
theorem dec_small (m : Nat) (hm : m < 10) (w : World) (T : ByteArray) (hT : Hid (T = ⟨#[UInt8.ofNat (48 + m)]⟩)) : Calls Tryd.prog 78 #[.int .i64 m] w fun e w' => e = .returned (.string T) ∧ Plus w w' := by
  have hc := conv_one0 (48 + m) (by omega) w
  rw [show ((48 + m : Nat) : Int) = 48 + (m : Int) by omega, ← hT.out] at hc
  go_enter Tryd.func78, Tryd.ntmps78
  go_wp2
  go_ret
  exact ⟨rfl, (by repeat' (first | exact Plus.refl _ | refine Plus.alloc ?_ _ | refine Plus.plus ?_ _ | refine Plus.drew ?_ | refine Plus.drewN ?_ _))⟩
set_option maxRecDepth 100000 in
set_option maxHeartbeats 2000000 in
theorem dec_big (m p b : Int) (hm : 10 ≤ m) (hm2 : m ≤ 9223372036854775807) (hw1 : IntKind.i64.wrap (m.tdiv 10) = p) (hw2 : IntKind.u8.wrap (IntKind.i64.wrap (48 + m.tmod 10)) = b) (S T U : ByteArray) (hU : Hid (U = S ++ T)) (hS : S.size ≤ 30) (hTs : T.size = 1)
    (hA : Hid (∀ (v : World) x, (convert 58 9 (.slice (some ⟨v.heap.size, 0, none⟩) 1 1)).run Tryd.prog (plus (v.alloc (.cells #[.int .u8 b] 5)) x) = .ok (.string T) (plus (v.alloc (.cells #[.int .u8 b] 5)) x)))
    (hB : Hid (∀ (v : World), (convert 58 9 (.slice (some ⟨v.heap.size, 0, none⟩) 1 1)).run Tryd.prog (v.alloc (.cells #[.int .u8 b] 5)) = .ok (.string T) (v.alloc (.cells #[.int .u8 b] 5))))
    (ih : Hid (∀ w, Calls Tryd.prog 78 #[.int .i64 p] w fun e w' => e = .returned (.string S) ∧ Plus w w')) (w : World) : Calls Tryd.prog 78 #[.int .i64 m] w fun e w' => e = .returned (.string U) ∧ Plus w w' := by
  have hcA : ∀ x, (convert 58 9 (.slice (some ⟨w.heap.size, 0, none⟩) 1 1)).run Tryd.prog (plus (w.alloc (.cells #[.int .u8 b] 5)) x) = .ok (.string T) (plus (w.alloc (.cells #[.int .u8 b] 5)) x) := fun x => hA.out w x
  have hcB : (convert 58 9 (.slice (some ⟨w.heap.size, 0, none⟩) 1 1)).run Tryd.prog (w.alloc (.cells #[.int .u8 b] 5)).drew = .ok (.string T) (w.alloc (.cells #[.int .u8 b] 5)).drew := hB.out w.drew
  have hcC : ∀ x, (convert 58 9 (.slice (some ⟨w.heap.size + x.blocks.length, 0, none⟩) 1 1)).run Tryd.prog ((plus w x).alloc (.cells #[.int .u8 b] 5)) = .ok (.string T) ((plus w x).alloc (.cells #[.int .u8 b] 5)) := fun x => by
    have := hB.out (plus w x)
    rw [size_plus] at this
    exact this
  go_enter Tryd.func78, Tryd.ntmps78
  go_wp2_with fail
  go_region_with (go_at_call 78; (with_reducible refine (ih.out _).mono ?_); rintro e w1 ⟨rfl, ⟨x1, rfl⟩⟩)
  all_goals
    go_wp2_with fail
    go_returns
    exact ⟨by rw [hU.out]; rfl, (by repeat' (first | exact Plus.refl _ | refine Plus.alloc ?_ _ | refine Plus.plus ?_ _ | refine Plus.drew ?_ | refine Plus.drewN ?_ _))⟩
theorem dec_le : ∀ (k m : Nat), m < 10 ^ (k + 1) → (Lib.decDigits m).length ≤ k + 1
  | 0, m, h => by rw [Lib.decDigits_one (by simpa using h)]; simp
  | k + 1, m, h => by
    by_cases q : m < 10
    · rw [Lib.decDigits_one q]; simp
    · rw [Lib.decDigits, dif_neg q, List.length_append]
      have := dec_le k (m / 10) (by rw [Nat.pow_succ] at h; omega)
      simp
      omega
theorem dec_len {m : Nat} (h : m ≤ 9223372036854775807) : (Lib.decDigits m).length ≤ 21 := by
  have := dec_le 19 m (by omega)
  omega
theorem dec_c : ∀ (m : Nat), m ≤ 9223372036854775807 → ∀ w, Calls Tryd.prog 78 #[.int .i64 (m : Int)] w fun e w' => e = .returned (.string ⟨(Lib.decDigits m).toArray⟩) ∧ Plus w w' := fun m => by
  induction m using Nat.strongRecOn with
  | _ m ih =>
    intro hm w
    by_cases h : m < 10
    · rw [Lib.decDigits_one h]
      exact dec_small m h w _ (Lib.hid rfl)
    · refine dec_big (m : Int) ((m / 10 : Nat) : Int) ((48 + m % 10 : Nat) : Int) (by omega) (by omega) ?_ ?_ ⟨(Lib.decDigits (m / 10)).toArray⟩ ⟨#[UInt8.ofNat (48 + m % 10)]⟩ ⟨(Lib.decDigits m).toArray⟩ (Lib.hid ?_) ?_ rfl (Lib.hid (conv_one _ (by omega))) (Lib.hid (conv_one0 _ (by omega))) (Lib.hid (ih (m / 10) (by omega) (by omega))) w
      · rw [show ((m : Int)).tdiv 10 = ((m / 10 : Nat) : Int) from rfl]
        exact IntWalk.i64_in _ (by omega)
      · have e : (m : Int).tmod 10 = ((m % 10 : Nat) : Int) := rfl
        rw [e, show 48 + ((m % 10 : Nat) : Int) = ((48 + m % 10 : Nat) : Int) by omega, IntWalk.i64_in _ (by omega)]
        exact IntWalk.u8_in _ (by omega)
      · rw [Lib.decDigits, dif_neg h]
        apply ByteArray.ext
        rw [ByteArray.data_append]
        simp
      · have := dec_len (m := m / 10) (by omega)
        show (Lib.decDigits (m / 10)).toArray.size ≤ 30
        simp
        omega
set_option maxRecDepth 100000 in
set_option maxHeartbeats 4000000 in
theorem dec_nsmall (n : Int) (h1 : n < 0) (_h2 : -10 < n) (b : Int) (hb : wrap64 (48 - n.tmod 10) % 256 = b) (h0 : n.tdiv 10 = 0) (w : World) (T U : ByteArray) (hU : Hid (U = ⟨#[45]⟩ ++ T)) (hTs : T.size = 1)
    (hB : Hid (∀ (v : World), (convert 58 9 (.slice (some ⟨v.heap.size, 0, none⟩) 1 1)).run Tryd.prog (v.alloc (.cells #[.int .u8 b] 5)) = .ok (.string T) (v.alloc (.cells #[.int .u8 b] 5)))) :
    Calls Tryd.prog 78 #[.int .i64 n] w fun e w' => e = .returned (.string U) ∧ Plus w w' := by
  have hc := hB.out w
  go_enter Tryd.func78, Tryd.ntmps78
  go_wp2
  go_ret
  exact ⟨by rw [hU.out]; rfl, (by repeat' (first | exact Plus.refl _ | refine Plus.alloc ?_ _ | refine Plus.plus ?_ _ | refine Plus.drew ?_ | refine Plus.drewN ?_ _))⟩
set_option maxRecDepth 100000 in
set_option maxHeartbeats 4000000 in
theorem dec_nbig (n p0 p b : Int) (hn : n ≤ -10) (hn2 : -9223372036854775808 ≤ n) (hw0 : IntKind.i64.wrap (n.tdiv 10) = p0) (hp0 : (p0 == 0) = false) (hw1 : IntKind.i64.wrap (-p0) = p) (hw2 : IntKind.u8.wrap (IntKind.i64.wrap (48 - n.tmod 10)) = b) (S T U : ByteArray) (hU : Hid (U = (⟨#[45]⟩ ++ S) ++ T)) (hS : S.size ≤ 30) (hTs : T.size = 1)
    (hA : Hid (∀ (v : World) x, (convert 58 9 (.slice (some ⟨v.heap.size, 0, none⟩) 1 1)).run Tryd.prog (plus (v.alloc (.cells #[.int .u8 b] 5)) x) = .ok (.string T) (plus (v.alloc (.cells #[.int .u8 b] 5)) x)))
    (hB : Hid (∀ (v : World), (convert 58 9 (.slice (some ⟨v.heap.size, 0, none⟩) 1 1)).run Tryd.prog (v.alloc (.cells #[.int .u8 b] 5)) = .ok (.string T) (v.alloc (.cells #[.int .u8 b] 5))))
    (ih : Hid (∀ w, Calls Tryd.prog 78 #[.int .i64 p] w fun e w' => e = .returned (.string S) ∧ Plus w w')) (w : World) : Calls Tryd.prog 78 #[.int .i64 n] w fun e w' => e = .returned (.string U) ∧ Plus w w' := by
  have hcA : ∀ x, (convert 58 9 (.slice (some ⟨w.heap.size, 0, none⟩) 1 1)).run Tryd.prog (plus (w.alloc (.cells #[.int .u8 b] 5)) x) = .ok (.string T) (plus (w.alloc (.cells #[.int .u8 b] 5)) x) := fun x => hA.out w x
  have hcB : (convert 58 9 (.slice (some ⟨w.heap.size, 0, none⟩) 1 1)).run Tryd.prog (w.alloc (.cells #[.int .u8 b] 5)).drew = .ok (.string T) (w.alloc (.cells #[.int .u8 b] 5)).drew := hB.out w.drew
  have hcC : ∀ x, (convert 58 9 (.slice (some ⟨w.heap.size + x.blocks.length, 0, none⟩) 1 1)).run Tryd.prog ((plus w x).alloc (.cells #[.int .u8 b] 5)) = .ok (.string T) ((plus w x).alloc (.cells #[.int .u8 b] 5)) := fun x => by
    have := hB.out (plus w x)
    rw [size_plus] at this
    exact this
  go_enter Tryd.func78, Tryd.ntmps78
  go_wp2_with fail
  go_region_with (go_at_call 78; (with_reducible refine (ih.out _).mono ?_); rintro e w1 ⟨rfl, ⟨x1, rfl⟩⟩)
  all_goals
    go_wp2_with fail
    go_returns
    exact ⟨by rw [hU.out]; rfl, (by repeat' (first | exact Plus.refl _ | refine Plus.alloc ?_ _ | refine Plus.plus ?_ _ | refine Plus.drew ?_ | refine Plus.drewN ?_ _))⟩
/-- A negative number's digits. -/
theorem dec_n (m : Nat) (h0 : 1 ≤ m) (hm : m ≤ 9223372036854775808) (w : World) : Calls Tryd.prog 78 #[.int .i64 (-(m : Int))] w fun e w' => e = .returned (.string ⟨(45 :: Lib.decDigits m).toArray⟩) ∧ Plus w w' := by
  have hneg : (-(m : Int)).tmod 10 = -((m % 10 : Nat) : Int) := by rw [Int.neg_tmod]; rfl
  have hdiv : (-(m : Int)).tdiv 10 = -((m / 10 : Nat) : Int) := by rw [Int.neg_tdiv]; rfl
  by_cases h : m < 10
  · refine dec_nsmall (-(m : Int)) (by omega) (by omega) ((48 + m % 10 : Nat) : Int) ?_ ?_ w ⟨#[UInt8.ofNat (48 + m % 10)]⟩ _ (Lib.hid ?_) rfl (Lib.hid (conv_one0 _ (by omega)))
    · rw [hneg, IntWalk.wrap64_in _ (by omega)]; omega
    · rw [hdiv]; omega
    · rw [Lib.decDigits_one h, Nat.mod_eq_of_lt h]
      apply ByteArray.ext
      rw [ByteArray.data_append]
      simp
  · refine dec_nbig (-(m : Int)) (-((m / 10 : Nat) : Int)) ((m / 10 : Nat) : Int) ((48 + m % 10 : Nat) : Int) (by omega) (by omega) ?_ ?_ ?_ ?_ ⟨(Lib.decDigits (m / 10)).toArray⟩ ⟨#[UInt8.ofNat (48 + m % 10)]⟩ _ (Lib.hid ?_) ?_ rfl (Lib.hid (conv_one _ (by omega))) (Lib.hid (conv_one0 _ (by omega))) (Lib.hid (dec_c (m / 10) (by omega))) w
    · rw [hdiv]; exact IntWalk.i64_in _ (by omega)
    · simp; omega
    · rw [Int.neg_neg]; exact IntWalk.i64_in _ (by omega)
    · rw [hneg, show 48 - -((m % 10 : Nat) : Int) = ((48 + m % 10 : Nat) : Int) by omega, IntWalk.i64_in _ (by omega)]
      exact IntWalk.u8_in _ (by omega)
    · rw [Lib.decDigits, dif_neg h]
      apply ByteArray.ext
      rw [ByteArray.data_append, ByteArray.data_append]
      simp
    · have := dec_len (m := m / 10) (by omega)
      show (Lib.decDigits (m / 10)).toArray.size ≤ 30
      simp
      omega

/-- A number's digits, by the document. -/
theorem rdec_c (n : Int) (h0 : -9223372036854775808 ≤ n) (h1 : n ≤ 9223372036854775807) (w : World) : Calls Tryd.prog 78 #[.int .i64 n] w fun e w' => e = .returned (.string ⟨(Lib.itoa n).toArray⟩) ∧ Plus w w' := by
  by_cases h : n < 0
  · obtain ⟨m, hm⟩ : ∃ m : Nat, n = -(m : Int) := ⟨n.natAbs, by omega⟩
    have e : Lib.itoa n = 45 :: Lib.decDigits m := by
      unfold Lib.itoa
      rw [if_pos h, hm]
      simp
    rw [e, hm]
    exact dec_n m (by omega) (by omega) w
  · obtain ⟨m, hm⟩ : ∃ m : Nat, n = (m : Int) := ⟨n.toNat, by omega⟩
    rw [hm, Lib.itoa_nonneg]
    exact dec_c m (by omega) w
theorem rdec_v {n : Int} {T : ByteArray} (h0 : -9223372036854775808 ≤ n) (h1 : n ≤ 9223372036854775807) (h : Hid ((⟨(Lib.itoa n).toArray⟩ : ByteArray) = T)) (w : World) : Calls Tryd.prog 78 #[.int .i64 n] w fun e w' => e = .returned (.string T) ∧ Plus w w' := by
  have c := rdec_c n h0 h1 w
  rw [h.out] at c
  exact c
end Go.Proofs.YtdmodkmliagiiaaDoor
