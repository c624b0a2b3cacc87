/- Contract: renref.Dec. -/
import Derived.IntWalk
import Derived.Lib.ItoaMem
import Derived.Test.YthaokkmbghgopaaC28
namespace Go.Proofs.Ythaokkmbghgopaa
open Go.RowKit


theorem conv_one (d : Nat) (hd : d < 256) (v : World) (x : More) : (convert 73 9 (.slice (some ⟨v.heap.size, 0, none⟩) 1 1)).run Try.prog (plus (v.alloc (.cells #[.int .u8 (d : Int)] 5)) x) = .ok (.string ⟨#[UInt8.ofNat d]⟩) (plus (v.alloc (.cells #[.int .u8 (d : Int)] 5)) x) :=
  run_convert_bytes_back (P := Try.prog) _ 73 9 5 ⟨v.heap.size, 0, none⟩ 1 [UInt8.ofNat d] Try.underlying73 Try.underlying5 Try.underlying9 (fun j hj => by
    obtain rfl : j = 0 := by simpa using hj
    have e : (v.alloc (.cells #[.int .u8 (d : Int)] 5)).cell? ⟨v.heap.size, 0, none⟩ = some (.int .u8 (d : Int)) := by rw [World.cell?_alloc_new]; rfl
    have h2 := (Plus.is (w := v.alloc (.cells #[.int .u8 (d : Int)] 5)) x).below.cell (p := ⟨v.heap.size, 0, none⟩) (by simp [World.size_alloc])
    rw [zero_add_addr, h2, e]
    simp [UInt8.toNat_ofNat']
    omega)
theorem conv_one0 (d : Nat) (hd : d < 256) (v : World) : (convert 73 9 (.slice (some ⟨v.heap.size, 0, none⟩) 1 1)).run Try.prog (v.alloc (.cells #[.int .u8 (d : Int)] 5)) = .ok (.string ⟨#[UInt8.ofNat d]⟩) (v.alloc (.cells #[.int .u8 (d : Int)] 5)) :=
  run_convert_bytes_back (P := Try.prog) _ 73 9 5 ⟨v.heap.size, 0, none⟩ 1 [UInt8.ofNat d] Try.underlying73 Try.underlying5 Try.underlying9 (fun j hj => by
    obtain rfl : j = 0 := by simpa using hj
    have e : (v.alloc (.cells #[.int .u8 (d : Int)] 5)).cell? ⟨v.heap.size, 0, none⟩ = some (.int .u8 (d : Int)) := by rw [World.cell?_alloc_new]; rfl
    rw [zero_add_addr, e]
    simp [UInt8.toNat_ofNat']
    omega)
set_option maxRecDepth 100000 in
set_option maxHeartbeats 4000000 in
theorem ref_dec_small (m b : Int) (h0 : 0 ≤ m) (hm : m < 10) (hw : 48 + m = b) (T : ByteArray)
    (hA : Hid (∀ (v : World) x, (convert 73 9 (.slice (some ⟨v.heap.size, 0, none⟩) 1 1)).run Try.prog (plus (v.alloc (.cells #[.int .u8 b] 5)) x) = .ok (.string T) (plus (v.alloc (.cells #[.int .u8 b] 5)) x)))
    (hB : Hid (∀ (v : World), (convert 73 9 (.slice (some ⟨v.heap.size, 0, none⟩) 1 1)).run Try.prog (v.alloc (.cells #[.int .u8 b] 5)) = .ok (.string T) (v.alloc (.cells #[.int .u8 b] 5)))) (w : World) : Calls Try.prog 50 #[.int .i64 m] w fun e w' => e = .returned (.string T) ∧ Plus w w' := by
  have hcA : ∀ x, (convert 73 9 (.slice (some ⟨w.heap.size, 0, none⟩) 1 1)).run Try.prog (plus (w.alloc (.cells #[.int .u8 b] 5)) x) = .ok (.string T) (plus (w.alloc (.cells #[.int .u8 b] 5)) x) := fun x => hA.out w x
  have hcB : (convert 73 9 (.slice (some ⟨w.heap.size, 0, none⟩) 1 1)).run Try.prog (w.alloc (.cells #[.int .u8 b] 5)).drew = .ok (.string T) (w.alloc (.cells #[.int .u8 b] 5)).drew := hB.out w.drew
  have hcC : ∀ x, (convert 73 9 (.slice (some ⟨w.heap.size + x.blocks.length, 0, none⟩) 1 1)).run Try.prog ((plus w x).alloc (.cells #[.int .u8 b] 5)) = .ok (.string T) ((plus w x).alloc (.cells #[.int .u8 b] 5)) := fun x => by
    have := hB.out (plus w x)
    rw [size_plus] at this
    exact this
  have hcD : (convert 73 9 (.slice (some ⟨w.heap.size, 0, none⟩) 1 1)).run Try.prog (w.alloc (.cells #[.int .u8 b] 5)) = .ok (.string T) (w.alloc (.cells #[.int .u8 b] 5)) := hB.out w
  go_enter Try.func50, Try.ntmps50
  go_wp2
  go_ret
  exact ⟨rfl, (by repeat' (first | exact Plus.refl _ | refine Plus.alloc ?_ _ | refine Plus.plus ?_ _ | refine Plus.drew ?_ | refine Plus.drewN ?_ _))⟩
set_option maxRecDepth 100000 in
set_option maxHeartbeats 2000000 in
theorem ref_dec_big (m p b : Int) (hm : 10 ≤ m) (hm2 : m ≤ 9223372036854775807) (hw1 : IntKind.i64.wrap (m.tdiv 10) = p) (hw2 : IntKind.u8.wrap (IntKind.i64.wrap (48 + m.tmod 10)) = b) (S T U : ByteArray) (hU : Hid (U = S ++ T)) (hS : S.size ≤ 30) (hTs : T.size = 1)
    (hA : Hid (∀ (v : World) x, (convert 73 9 (.slice (some ⟨v.heap.size, 0, none⟩) 1 1)).run Try.prog (plus (v.alloc (.cells #[.int .u8 b] 5)) x) = .ok (.string T) (plus (v.alloc (.cells #[.int .u8 b] 5)) x)))
    (hB : Hid (∀ (v : World), (convert 73 9 (.slice (some ⟨v.heap.size, 0, none⟩) 1 1)).run Try.prog (v.alloc (.cells #[.int .u8 b] 5)) = .ok (.string T) (v.alloc (.cells #[.int .u8 b] 5))))
    (ih : Hid (∀ w, Calls Try.prog 50 #[.int .i64 p] w fun e w' => e = .returned (.string S) ∧ Plus w w')) (w : World) : Calls Try.prog 50 #[.int .i64 m] w fun e w' => e = .returned (.string U) ∧ Plus w w' := by
  have hcA : ∀ x, (convert 73 9 (.slice (some ⟨w.heap.size, 0, none⟩) 1 1)).run Try.prog (plus (w.alloc (.cells #[.int .u8 b] 5)) x) = .ok (.string T) (plus (w.alloc (.cells #[.int .u8 b] 5)) x) := fun x => hA.out w x
  have hcB : (convert 73 9 (.slice (some ⟨w.heap.size, 0, none⟩) 1 1)).run Try.prog (w.alloc (.cells #[.int .u8 b] 5)).drew = .ok (.string T) (w.alloc (.cells #[.int .u8 b] 5)).drew := hB.out w.drew
  have hcC : ∀ x, (convert 73 9 (.slice (some ⟨w.heap.size + x.blocks.length, 0, none⟩) 1 1)).run Try.prog ((plus w x).alloc (.cells #[.int .u8 b] 5)) = .ok (.string T) ((plus w x).alloc (.cells #[.int .u8 b] 5)) := fun x => by
    have := hB.out (plus w x)
    rw [size_plus] at this
    exact this
  have hcD : (convert 73 9 (.slice (some ⟨w.heap.size, 0, none⟩) 1 1)).run Try.prog (w.alloc (.cells #[.int .u8 b] 5)) = .ok (.string T) (w.alloc (.cells #[.int .u8 b] 5)) := hB.out w
  go_enter Try.func50, Try.ntmps50
  go_wp2_with fail
  go_region_with (go_at_call 50; (with_reducible refine (ih.out _).mono ?_); rintro e w1 ⟨rfl, ⟨x1, rfl⟩⟩)
  all_goals
    go_wp2_with fail
    go_returns
    exact ⟨by rw [hU.out]; rfl, (by repeat' (first | exact Plus.refl _ | refine Plus.alloc ?_ _ | refine Plus.plus ?_ _ | refine Plus.drew ?_ | refine Plus.drewN ?_ _))⟩
set_option maxRecDepth 100000 in
set_option maxHeartbeats 2000000 in
theorem ref_dec_neg1 (m b : Int) (h0 : m < 0) (hw0 : IntKind.i64.wrap (m.tdiv 10) = 0) (hw2 : wrap64 (48 - m.tmod 10) % 256 = b) (T U : ByteArray) (hU : Hid (U = ⟨#[45]⟩ ++ T)) (hTs : T.size = 1)
    (hA : Hid (∀ (v : World) x, (convert 73 9 (.slice (some ⟨v.heap.size, 0, none⟩) 1 1)).run Try.prog (plus (v.alloc (.cells #[.int .u8 b] 5)) x) = .ok (.string T) (plus (v.alloc (.cells #[.int .u8 b] 5)) x)))
    (hB : Hid (∀ (v : World), (convert 73 9 (.slice (some ⟨v.heap.size, 0, none⟩) 1 1)).run Try.prog (v.alloc (.cells #[.int .u8 b] 5)) = .ok (.string T) (v.alloc (.cells #[.int .u8 b] 5)))) (w : World) : Calls Try.prog 50 #[.int .i64 m] w fun e w' => e = .returned (.string U) ∧ Plus w w' := by
  have hcA : ∀ x, (convert 73 9 (.slice (some ⟨w.heap.size, 0, none⟩) 1 1)).run Try.prog (plus (w.alloc (.cells #[.int .u8 b] 5)) x) = .ok (.string T) (plus (w.alloc (.cells #[.int .u8 b] 5)) x) := fun x => hA.out w x
  have hcB : (convert 73 9 (.slice (some ⟨w.heap.size, 0, none⟩) 1 1)).run Try.prog (w.alloc (.cells #[.int .u8 b] 5)).drew = .ok (.string T) (w.alloc (.cells #[.int .u8 b] 5)).drew := hB.out w.drew
  have hcC : ∀ x, (convert 73 9 (.slice (some ⟨w.heap.size + x.blocks.length, 0, none⟩) 1 1)).run Try.prog ((plus w x).alloc (.cells #[.int .u8 b] 5)) = .ok (.string T) ((plus w x).alloc (.cells #[.int .u8 b] 5)) := fun x => by
    have := hB.out (plus w x)
    rw [size_plus] at this
    exact this
  have hcD : (convert 73 9 (.slice (some ⟨w.heap.size, 0, none⟩) 1 1)).run Try.prog (w.alloc (.cells #[.int .u8 b] 5)) = .ok (.string T) (w.alloc (.cells #[.int .u8 b] 5)) := hB.out w
  go_enter Try.func50, Try.ntmps50
  go_wp2_with fail
  go_returns
  exact ⟨by rw [hU.out]; rfl, (by repeat' (first | exact Plus.refl _ | refine Plus.alloc ?_ _ | refine Plus.plus ?_ _ | refine Plus.drew ?_ | refine Plus.drewN ?_ _))⟩
set_option maxRecDepth 100000 in
set_option maxHeartbeats 2000000 in
theorem ref_dec_neg (m p b : Int) (hm : m ≤ -10) (hm2 : -9223372036854775807 ≤ m) (hw0 : (m.tdiv 10 == 0) = false) (hw1 : IntKind.i64.wrap (-IntKind.i64.wrap (m.tdiv 10)) = p) (hw2 : IntKind.u8.wrap (IntKind.i64.wrap (48 - m.tmod 10)) = b) (S T U : ByteArray) (hU : Hid (U = ⟨#[45]⟩ ++ S ++ T)) (hS : S.size ≤ 30) (hTs : T.size = 1)
    (hA : Hid (∀ (v : World) x, (convert 73 9 (.slice (some ⟨v.heap.size, 0, none⟩) 1 1)).run Try.prog (plus (v.alloc (.cells #[.int .u8 b] 5)) x) = .ok (.string T) (plus (v.alloc (.cells #[.int .u8 b] 5)) x)))
    (hB : Hid (∀ (v : World), (convert 73 9 (.slice (some ⟨v.heap.size, 0, none⟩) 1 1)).run Try.prog (v.alloc (.cells #[.int .u8 b] 5)) = .ok (.string T) (v.alloc (.cells #[.int .u8 b] 5))))
    (ih : Hid (∀ w, Calls Try.prog 50 #[.int .i64 p] w fun e w' => e = .returned (.string S) ∧ Plus w w')) (w : World) : Calls Try.prog 50 #[.int .i64 m] w fun e w' => e = .returned (.string U) ∧ Plus w w' := by
  have hcA : ∀ x, (convert 73 9 (.slice (some ⟨w.heap.size, 0, none⟩) 1 1)).run Try.prog (plus (w.alloc (.cells #[.int .u8 b] 5)) x) = .ok (.string T) (plus (w.alloc (.cells #[.int .u8 b] 5)) x) := fun x => hA.out w x
  have hcB : (convert 73 9 (.slice (some ⟨w.heap.size, 0, none⟩) 1 1)).run Try.prog (w.alloc (.cells #[.int .u8 b] 5)).drew = .ok (.string T) (w.alloc (.cells #[.int .u8 b] 5)).drew := hB.out w.drew
  have hcC : ∀ x, (convert 73 9 (.slice (some ⟨w.heap.size + x.blocks.length, 0, none⟩) 1 1)).run Try.prog ((plus w x).alloc (.cells #[.int .u8 b] 5)) = .ok (.string T) ((plus w x).alloc (.cells #[.int .u8 b] 5)) := fun x => by
    have := hB.out (plus w x)
    rw [size_plus] at this
    exact this
  have hcD : (convert 73 9 (.slice (some ⟨w.heap.size, 0, none⟩) 1 1)).run Try.prog (w.alloc (.cells #[.int .u8 b] 5)) = .ok (.string T) (w.alloc (.cells #[.int .u8 b] 5)) := hB.out w
  go_enter Try.func50, Try.ntmps50
  go_wp2_with fail
  go_region_with (go_at_call 50; (with_reducible refine (ih.out _).mono ?_); rintro e w1 ⟨rfl, ⟨x1, rfl⟩⟩)
  all_goals
    go_wp2_with fail
    go_returns
    exact ⟨by rw [hU.out]; rfl, (by repeat' (first | exact Plus.refl _ | refine Plus.alloc ?_ _ | refine Plus.plus ?_ _ | refine Plus.drew ?_ | refine Plus.drewN ?_ _))⟩
theorem dd_le : ∀ (k m : Nat), m < 10 ^ (k + 1) → (Lib.decDigits m).length ≤ k + 1
  | 0, m, h => by rw [Lib.decDigits_one (by simpa using h)]; simp
  | k + 1, m, h => by
    by_cases q : m < 10
    · rw [Lib.decDigits_one q]; simp
    · rw [Lib.decDigits, dif_neg q, List.length_append]
      have := dd_le k (m / 10) (by rw [Nat.pow_succ] at h; omega)
      simp
      omega
theorem dd_sz {m : Nat} (h : m ≤ 9223372036854775807) : (⟨(Lib.decDigits m).toArray⟩ : ByteArray).size ≤ 30 := by
  have := dd_le 19 m (by omega)
  show (Lib.decDigits m).toArray.size ≤ 30
  simp
  omega
theorem ref_decN : ∀ (m : Nat), m ≤ 9223372036854775807 → ∀ w, Calls Try.prog 50 #[.int .i64 (m : Int)] w fun e w' => e = .returned (.string ⟨(Lib.decDigits m).toArray⟩) ∧ Plus w w' := fun m => by
  induction m using Nat.strongRecOn with
  | _ m ih =>
    intro hm w
    by_cases h : m < 10
    · rw [Lib.decDigits_one h]
      exact ref_dec_small (m : Int) ((48 + m : Nat) : Int) (by omega) (by omega) (by omega) _ (Lib.hid (conv_one _ (by omega))) (Lib.hid (conv_one0 _ (by omega))) w
    · refine ref_dec_big (m : Int) ((m / 10 : Nat) : Int) ((48 + m % 10 : Nat) : Int) (by omega) (by omega) ?_ ?_ ⟨(Lib.decDigits (m / 10)).toArray⟩ ⟨#[UInt8.ofNat (48 + m % 10)]⟩ ⟨(Lib.decDigits m).toArray⟩ (Lib.hid ?_) (dd_sz (by omega)) rfl (Lib.hid (conv_one _ (by omega))) (Lib.hid (conv_one0 _ (by omega))) (Lib.hid (ih (m / 10) (by omega) (by omega))) w
      · rw [show ((m : Int)).tdiv 10 = ((m / 10 : Nat) : Int) from rfl]
        exact IntWalk.i64_in _ (by omega)
      · have e : (m : Int).tmod 10 = ((m % 10 : Nat) : Int) := rfl
        rw [e, show 48 + ((m % 10 : Nat) : Int) = ((48 + m % 10 : Nat) : Int) by omega, IntWalk.i64_in _ (by omega)]
        exact IntWalk.u8_in _ (by omega)
      · rw [Lib.decDigits, dif_neg h]
        apply ByteArray.ext
        rw [ByteArray.data_append]
        simp
/-- renref.Dec, at every int but the least: the decimal numeral. -/
theorem ref_dec (n : Int) (h0 : -9223372036854775807 ≤ n) (h1 : n ≤ 9223372036854775807) (w : World) : Calls Try.prog 50 #[.int .i64 n] w fun e w' => e = .returned (.string ⟨(Lib.itoa n).toArray⟩) ∧ Plus w w' := by
  by_cases hn : 0 ≤ n
  · obtain ⟨m, rfl⟩ : ∃ m : Nat, n = m := ⟨n.toNat, by omega⟩
    rw [Lib.itoa_nonneg]
    exact ref_decN m (by omega) w
  · obtain ⟨m, rfl⟩ : ∃ m : Nat, n = -(m : Int) := ⟨(-n).toNat, by omega⟩
    have d1 : (-(m : Int)).tdiv 10 = -((m / 10 : Nat) : Int) := by rw [Int.neg_tdiv]; rfl
    have d2 : (-(m : Int)).tmod 10 = -((m % 10 : Nat) : Int) := by rw [Int.neg_tmod]; rfl
    rw [Lib.itoa_neg m (by omega)]
    by_cases h : m < 10
    · refine ref_dec_neg1 (-(m : Int)) ((48 + m % 10 : Nat) : Int) (by omega) ?_ ?_ ⟨#[UInt8.ofNat (48 + m % 10)]⟩ _ (Lib.hid ?_) rfl (Lib.hid (conv_one _ (by omega))) (Lib.hid (conv_one0 _ (by omega))) w
      · rw [d1, show m / 10 = 0 by omega]
        rfl
      · rw [d2]
        unfold wrap64
        omega
      · rw [Lib.decDigits_one h, show m % 10 = m by omega]
        rfl
    · refine ref_dec_neg (-(m : Int)) ((m / 10 : Nat) : Int) ((48 + m % 10 : Nat) : Int) (by omega) (by omega) ?_ ?_ ?_ ⟨(Lib.decDigits (m / 10)).toArray⟩ ⟨#[UInt8.ofNat (48 + m % 10)]⟩ _ (Lib.hid ?_) (dd_sz (by omega)) rfl (Lib.hid (conv_one _ (by omega))) (Lib.hid (conv_one0 _ (by omega))) (Lib.hid (ref_decN (m / 10) (by omega))) w
      · rw [d1]
        simp
        omega
      · rw [d1, show IntKind.i64.wrap (-((m / 10 : Nat) : Int)) = -((m / 10 : Nat) : Int) from IntWalk.i64_in _ (by omega), Int.neg_neg]
        exact IntWalk.i64_in _ (by omega)
      · rw [d2, show 48 - -((m % 10 : Nat) : Int) = ((48 + m % 10 : Nat) : Int) by omega, IntWalk.i64_in _ (by omega)]
        exact IntWalk.u8_in _ (by omega)
      · rw [Lib.decDigits, dif_neg h]
        apply ByteArray.ext
        rw [ByteArray.data_append, ByteArray.data_append]
        simp
end Go.Proofs.Ythaokkmbghgopaa
