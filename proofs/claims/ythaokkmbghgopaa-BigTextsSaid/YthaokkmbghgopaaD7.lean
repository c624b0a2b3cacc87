/- The document's BigInts: Of; named contracts; two that are the same. -/
import Derived.Test.YthaokkmbghgopaaD6
import Derived.Test.YthaokkmbghgopaaC28
namespace Go.Proofs.Ythaokkmbghgopaa
open Go.RowKit


set_option maxRecDepth 100000 in
set_option maxHeartbeats 4000000 in
theorem rOf_h (v a b : Nat) (n t zv : Int) (w : World) (hA : Hid (a < B)) (hB : Hid (b < B)) (hv4 : Hid (val [a, b] = v)) (h1 : IntKind.u64.wrap n = t) (hand : bits BinOp.and IntKind.u64 zv 4294967295 = (a : Int)) (hdiv : zv / 4294967296 = (b : Int)) (ha1 : (a : Int) ≤ 4294967295) (hb1 : (b : Int) ≤ 4294967295)
    (hc : (0 ≤ n ∧ t = zv ∧ Hid (n = (v : Int))) ∨ (n < 0 ∧ IntKind.u64.wrap (-t) = zv ∧ Hid (n = -(v : Int)))) : Calls Try.prog 45 #[.int .i64 n] w (RetBig n w) := by
  rcases hc with ⟨hn, rfl, HN⟩ | ⟨hn, h2, HN⟩
  · have HS : Hid (sgn (decide (n < 0)) v = n) := Lib.hid (by rw [show decide (n < 0) = false by simp; omega, sgn_fa, ← HN.out])
    go_enter Try.func45, Try.ntmps45
    go_wp2_with fail
    refine (rmade_c (decide (n < 0)) (some ⟨w.heap.size + 1, 0, none⟩) [a, b] 2 2 _ (Lim.lit2 (w.alloc (.cells #[.bool false, .slice none 0 0] 24)) (w.heap.size + 1) a b (by simp) hA.out hB.out) rfl (by simp) (by decide) (by simp)).mono ?_
    rintro e w1 ⟨A1, c1, rfl, r1, r2, r3, ⟨x1, rfl⟩⟩
    rw [hv4.out, HS.out] at r1 r3 ⊢
    have HR := Lib.hid r3
    have HR1 := Lib.hid r1
    clear r3 r1
    go_wp2_with fail
    go_returns
    refine ⟨A1, c1, by first | rfl | rw [decide_eq_true hn], HR1.out, r2, ?_, (by repeat' (first | exact Plus.refl _ | refine Plus.alloc ?_ _ | refine Plus.plus ?_ _ | refine Plus.drew ?_ | refine Plus.drewN ?_ _))⟩
    have r4 := HR.out
    simp only [alloc_two, plus_add] at r4 ⊢
    exact r4.res
  · have HS : Hid (sgn true v = n) := Lib.hid (by rw [sgn_tr, ← HN.out])
    go_enter Try.func45, Try.ntmps45
    go_wp2_with fail
    refine (rmade_c true (some ⟨w.heap.size + 1, 0, none⟩) [a, b] 2 2 _ (Lim.lit2 (w.alloc (.cells #[.bool false, .slice none 0 0] 24)) (w.heap.size + 1) a b (by simp) hA.out hB.out) rfl (by simp) (by decide) (by simp)).mono ?_
    rintro e w1 ⟨A1, c1, rfl, r1, r2, r3, ⟨x1, rfl⟩⟩
    rw [hv4.out, HS.out] at r1 r3 ⊢
    have HR := Lib.hid r3
    have HR1 := Lib.hid r1
    clear r3 r1
    go_wp2_with fail
    go_returns
    refine ⟨A1, c1, by first | rfl | rw [decide_eq_true hn], HR1.out, r2, ?_, (by repeat' (first | exact Plus.refl _ | refine Plus.alloc ?_ _ | refine Plus.plus ?_ _ | refine Plus.drew ?_ | refine Plus.drewN ?_ _))⟩
    have r4 := HR.out
    simp only [alloc_two, plus_add] at r4 ⊢
    exact r4.res

theorem rOf_c (n : Int) (h1 : -9223372036854775808 ≤ n) (h2 : n ≤ 9223372036854775807) (w : World) : Calls Try.prog 45 #[.int .i64 n] w (RetBig n w) := by
  have eB := B_eq
  have eBB := BB
  have hv : n.natAbs < 18446744073709551616 := by omega
  refine rOf_h n.natAbs (n.natAbs % B) (n.natAbs / B) n (n % 18446744073709551616) (n.natAbs : Nat) w (Lib.hid (Nat.mod_lt _ B_pos)) (Lib.hid (by rw [Nat.div_lt_iff_lt_mul B_pos, eBB]; exact hv)) (Lib.hid (by simp only [val, Nat.mul_zero, Nat.add_zero]; exact Nat.mod_add_div _ B)) (IntKind.wrap_u64 n) (low32 hv) (by rw [eB]; omega) (by have := Nat.mod_lt n.natAbs B_pos; omega) (by rw [eB]; omega) ?_
  by_cases h : 0 ≤ n
  · exact .inl ⟨h, by omega, Lib.hid (by omega)⟩
  · exact .inr ⟨by omega, by rw [IntKind.wrap_u64]; omega, Lib.hid (by omega)⟩
section
variable {pb : Bool} {us : List Nat} {r : Int}
theorem rOf_n {z : Int} (hr : Hid (OfN z r pb us)) (w : World) : Calls Try.prog 45 #[.int .i64 z] w fun e w' => ∃ (A1 : Option Addr) (c1 : Nat), e = .returned (.agg #[.bool pb, .slice A1 us.length c1]) ∧ Arg w' A1 us us.length c1 ∧ Plus w w' := by
  obtain ⟨h1, rfl, h2, h3⟩ := hr.out
  exact (rOf_c z h2 h3 w).mono fun _ _ h => h.n h1
theorem rfromWord_n {z : Int} {s : Bool} (hr : Hid (FwN z r s pb us)) (w : World) : Calls Try.prog 43 #[.int .u64 z, .bool s] w fun e w' => ∃ (A1 : Option Addr) (c1 : Nat), e = .returned (.agg #[.bool pb, .slice A1 us.length c1]) ∧ Arg w' A1 us us.length c1 ∧ Plus w w' := by
  obtain ⟨h1, v, rfl, h2, rfl⟩ := hr.out
  exact (rfromWord_c v s (by rw [BB] at h2; exact h2) w).mono fun _ _ h => h.n h1
theorem rasUint_n {an : Bool} {A : Option Addr} {xs : List Nat} {n c : Nat} {a : Int} (hA : Hid (bigI an xs = a)) {z er : Int} (hr : Hid (AsUN z a r er pb us)) (w : World) (ha : Arg w A xs n c) : Calls Try.prog 37 #[.int .i64 z, .agg #[.bool an, .slice A n c]] w fun e w' => ∃ (A1 : Option Addr) (c1 : Nat), e = .returned (.tuple #[.agg #[.bool pb, .slice A1 us.length c1], .int .i64 er]) ∧ Arg w' A1 us us.length c1 ∧ Plus w w' := by
  obtain ⟨h1, ⟨h2, h3, rfl, rfl⟩ | ⟨hz, rfl, rfl⟩⟩ := hr.out
  · have h := rasUint_c (an := an) z z.toNat (by omega) (by omega) w ha
    rw [hA.out] at h
    exact h.mono fun _ _ h => h.n h1
  · exact (rasUint_no an A n c z hz w).mono fun _ _ h => h.n h1
theorem rasInt_n {an : Bool} {A : Option Addr} {xs : List Nat} {n c : Nat} {a : Int} (hA : Hid (bigI an xs = a)) {z er : Int} (hr : Hid (AsIN z a r er pb us)) (w : World) (ha : Arg w A xs n c) : Calls Try.prog 39 #[.int .i64 z, .agg #[.bool an, .slice A n c]] w fun e w' => ∃ (A1 : Option Addr) (c1 : Nat), e = .returned (.tuple #[.agg #[.bool pb, .slice A1 us.length c1], .int .i64 er]) ∧ Arg w' A1 us us.length c1 ∧ Plus w w' := by
  obtain ⟨h1, ⟨h2, h3, h4, rfl⟩ | ⟨hz, rfl, rfl⟩⟩ := hr.out
  · have h := rasInt_c (an := an) z z.toNat (by omega) (by omega) w ha
    rw [hA.out] at h
    exact h.mono fun _ _ h => RetBigX.n h1 (by rw [h4]; exact h)
  · exact (rasInt_no an A n c z hz w).mono fun _ _ h => h.n h1
theorem rWord_n {an : Bool} {A : Option Addr} {xs : List Nat} {n c : Nat} {a : Int} (hA : Hid (bigI an xs = a)) {v : Int} (hr : Hid ((wordR a : Int) = v)) (w : World) (ha : Arg w A xs n c) : Calls Try.prog 41 #[.agg #[.bool an, .slice A n c]] w fun e w' => e = .returned (.int .u64 v) ∧ Plus w w' := by
  have h := rbWord_c (an := an) w ha
  rw [hA.out, hr.out] at h
  exact h
end
set_option maxRecDepth 100000 in
set_option maxHeartbeats 2000000 in
theorem same_limbs (A C : Option Addr) (us : List Nat) (n c d : Nat) (w : World) (h : Lim w A us) (k : Lim w C us) (hn : n = us.length) (hl : n ≤ 1048576) :
    Calls Try.prog 64 #[.slice A n c, .slice C n d] w fun e w' => e = .returned (.bool true) ∧ Plus w w' := by
  have b1 : ((n : Int) != (n : Int)) = false := by simp
  go_enter Try.func64, Try.ntmps64
  go_wp2
  go_loopw [5] (fun s5 wr => (∃ j : Nat, j ≤ n ∧ s5 = .int .i64 j) ∧ Plus w wr) (fun s5 _ => ((n : Int) - intOf s5).toNat)
  case atStart => exact ⟨⟨0, by omega, rfl⟩, Plus.refl _⟩
  case round =>
    obtain ⟨⟨j, hj, rfl⟩, hp⟩ := hrel
    by_cases hlt : j < n
    · have hA : Lim wr A us := h.below hp.below
      have hC : Lim wr C us := k.below hp.below
      obtain ⟨a1, rfl, e1⟩ := hA.at_ (k := j) (by omega)
      obtain ⟨a2, rfl, e2⟩ := hC.at_ (k := j) (by omega)
      have HP := Lib.hid hp
      obtain ⟨v, hv⟩ : ∃ v, lim us j = v := ⟨_, rfl⟩
      rw [hv] at e1 e2
      clear hA hC hp hv
      have hj2 : (j : Int) ≤ 1048576 := by omega
      go_wp2_with fail
      go_quiet (fail)
      go_wp2_with fail
      go_roundw
      case rel => exact ⟨⟨j + 1, hlt, by rw [show ((j + 1 : Nat) : Int) = (j : Int) + 1 by omega]⟩, HP.out.drewN _⟩
      case measure => simp [intOf]; omega
    · obtain rfl : j = n := by omega
      go_wp2_with fail
      go_ret
      exact ⟨rfl, hp⟩
set_option maxRecDepth 100000 in
set_option maxHeartbeats 2000000 in
theorem same_big (p : Bool) (A C : Option Addr) (us : List Nat) (n c d : Nat) (w : World) (h : Hid (Arg w A us n c)) (k : Hid (Arg w C us n d)) :
    Calls Try.prog 23 #[.agg #[.bool p, .slice A n c], .agg #[.bool p, .slice C n d]] w fun e w' => e = .returned (.bool true) ∧ Plus w w' := by
  have hh := fun (o1 o2 : Obj) => same_limbs A C us n c d ((w.alloc o1).alloc o2) ((h.out.lim.alloc o1).alloc o2) ((k.out.lim.alloc o1).alloc o2) h.out.len (by have := h.out.len; have := h.out.few; omega)
  go_enter Try.func23, Try.ntmps23
  go_wp2_with fail
  refine (hh _ _).mono ?_
  rintro e w1 ⟨rfl, ⟨x1, rfl⟩⟩
  go_wp2_with fail
  go_ret
  exact ⟨rfl, (by repeat' (first | exact Plus.refl _ | refine Plus.alloc ?_ _ | refine Plus.plus ?_ _ | refine Plus.drew ?_ | refine Plus.drewN ?_ _))⟩
end Go.Proofs.Ythaokkmbghgopaa
