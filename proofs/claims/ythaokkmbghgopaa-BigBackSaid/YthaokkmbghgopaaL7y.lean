/- BigBack, of any arguments. -/
import Derived.Test.YthaokkmbghgopaaL7w
import Derived.Test.YthaokkmbghgopaaL12w
namespace Go.Proofs.Ythaokkmbghgopaa
open Go.RowKit


theorem wf_u64 {z : Int} (h : (Lit.int .u64 z).wf = true) : 0 ≤ z ∧ z ≤ 18446744073709551615 := by
  simp [Lit.wf, IntKind.min, IntKind.max, IntKind.bits, IntKind.signed] at h
  omega
theorem dec_len78 {n : Nat} (h : n < B ^ 8) : (dec n).length ≤ 78 := by
  by_cases h0 : n = 0
  · subst h0
    rw [dec_small (by decide)]
    decide
  · have hd : dec n = dec0 n := by unfold dec0; rw [if_neg h0]
    rw [hd]
    have := TxtRel.len (m := 0) (bs := (dec0 n).reverse) (by rw [dec0_zero]; simp) h
    simpa using this
theorem txt_size {a : Int} (h : a.natAbs < B ^ 8) : (⟨(txt a).toArray⟩ : ByteArray).size ≤ 9223372036854775807 := by
  have := dec_len78 h
  show (txt a).toArray.size ≤ _
  rw [List.size_toArray]
  unfold txt
  split
  · rw [List.length_cons]; omega
  · omega
theorem par_txt {a : Int} (h : a.natAbs < B ^ 8) : ParN a 0 ⟨(txt a).toArray⟩ (decide (a < 0)) (dig a.natAbs) :=
  ⟨Nm.mk' h, by show parI (txt a) = a; unfold parI; rw [rd_txt h], by show parE (txt a) = 0; unfold parE; rw [rd_txt h], txt_size h⟩

set_option maxRecDepth 100000 in
set_option maxHeartbeats 4000000 in
theorem back_few (an : Bool) (A : Option Addr) (n c : Nat) (z q : Int) (sg : Bool) (w : World) (hf : ¬ n ≤ 40) :
    Calls Try.prog 7 #[.agg #[.bool an, .slice A n c], .int .u64 z, .int .i64 q, .bool sg] w fun e w' => e = .returned (.bool true) ∧ Plus w w' := by
  have E1 : Hid (decide (n ≤ 40) = false) := Lib.hid (decide_eq_false hf)
  clear hf
  go_enter Try.func7, Try.ntmps7
  go_wp2_with fail
  refine (first_c _).mono ?_
  rintro e w1 ⟨rfl, ⟨y0, rfl⟩⟩
  go_wp2_with fail
  refine (few_c E1 _).mono ?_
  rintro e w1 ⟨rfl, ⟨y1, rfl⟩⟩
  go_wp2_with fail
  refine (first_c _).mono ?_
  rintro e w1 ⟨rfl, ⟨y2, rfl⟩⟩
  go_wp2_with fail
  go_ret
  exact ⟨rfl, (by repeat' (first | exact Plus.refl _ | refine Plus.alloc ?_ _ | refine Plus.plus ?_ _ | refine Plus.drew ?_ | refine Plus.drewN ?_ _))⟩

set_option maxHeartbeats 8000000 in
theorem back_w (an : Bool) (A : Option Addr) (xs : List Nat) (n c : Nat) (z q : Int) (sg : Bool) (w : World) (ha : Raw w A xs n c) (hz : (Lit.int .u64 z).wf = true) :
    Calls Try.prog 7 #[.agg #[.bool an, .slice A n c], .int .u64 z, .int .i64 q, .bool sg] w fun e w' => e = .returned (.bool true) ∧ Plus w w' := by
  by_cases f1 : n ≤ 40
  · obtain ⟨a, ga⟩ : ∃ a, bigI an xs = a := ⟨_, rfl⟩
    have hab : a.natAbs < B ^ 8 := by rw [← ga]; exact bigI_abs ha.lim.1
    obtain ⟨z0, z1⟩ := wf_u64 hz
    have m1 := Nm.mk' hab
    have hB : B ^ 8 = 115792089237316195423570985008687907853269984665640564039457584007913129639936 := by decide
    have hBB : B * B = 18446744073709551616 := by decide
    obtain ⟨r, hr⟩ : ∃ r : Int, r = if sg = true ∧ 9223372036854775808 ≤ z.toNat then (z.toNat : Int) - 18446744073709551616 else z.toNat := ⟨_, rfl⟩
    have hr1 : r = z ∨ r = z - 18446744073709551616 := by
      rw [hr]
      split <;> omega
    have m2 := Nm.mk' (n := r) (by rw [hB]; omega)
    have e2 : (wordR r : Int) = z := by unfold wordR; omega
    have hF : FwN z r sg _ _ := ⟨m2, z.toNat, by omega, by rw [hBB]; omega, hr⟩
    by_cases hlo : q < 0
    · have m0 := Nm.mk' (n := 0) (by decide)
      exact back_lo _ _ _ _ _ _ _ _ _ _ _ _ _ _ _ _ _ _ _ w (Lib.hid (ha.arg f1)) (Lib.hid ga) (Lib.hid (by simpa using f1)) (Lib.hid rfl) (Lib.hid (par_txt hab)) (Lib.hid m1.val) (Lib.hid (decide_eq_true rfl)) (Lib.hid hF) (Lib.hid m2.val) (Lib.hid e2)
        (Lib.hid ⟨m0, .inr ⟨.inl hlo, rfl, rfl⟩⟩) (Lib.hid ⟨m0, .inr ⟨.inl hlo, rfl, rfl⟩⟩) hlo
    · by_cases hhi : 256 < q
      · have m0 := Nm.mk' (n := 0) (by decide)
        exact back_hi _ _ _ _ _ _ _ _ _ _ _ _ _ _ _ _ _ _ _ w (Lib.hid (ha.arg f1)) (Lib.hid ga) (Lib.hid (by simpa using f1)) (Lib.hid rfl) (Lib.hid (par_txt hab)) (Lib.hid m1.val) (Lib.hid (decide_eq_true rfl)) (Lib.hid hF) (Lib.hid m2.val) (Lib.hid e2)
          (Lib.hid ⟨m0, .inr ⟨.inr hhi, rfl, rfl⟩⟩) (Lib.hid ⟨m0, .inr ⟨.inr hhi, rfl, rfl⟩⟩) (by omega) hhi
      · have q0 : 0 ≤ q := by omega
        have q1 : q ≤ 256 := by omega
        have m3 := Nm.mk' (nm_mod a q q0 q1)
        have m4 := Nm.mk' (nm_asI a q q0 q1)
        have m7 := Nm.mk' (n := 0) (by decide)
        have hu : asI q a % 2 ^ q.toNat = a % 2 ^ q.toNat := by unfold asI; exact asIntR_mod a _ _ (Nat.le_refl _)
        have hi : asI q (a % 2 ^ q.toNat) = asI q a := by unfold asI; exact asIntR_of (mod_mod a _ _ (Nat.le_refl _))
        have hp : (0 : Int) ≤ a % 2 ^ q.toNat := by
          refine Int.emod_nonneg a ?_
          have ep : ((2 ^ q.toNat : Nat) : Int) = (2 : Int) ^ q.toNat := by rw [Int.natCast_pow]; rfl
          have := Nat.two_pow_pos q.toNat
          omega
        have hc : cmpZ (a % 2 ^ q.toNat) 0 = 0 ∨ cmpZ (a % 2 ^ q.toNat) 0 = 1 := by
          unfold cmpZ
          (repeat' split) <;> omega
        rcases hc with hc | hc
        all_goals first
          | exact back_ok0 an A xs n c z q sg a r (a % 2 ^ q.toNat) (asI q a) _ _ _ _ _ _ _ _ _ _ _ _ _ _ _ w (Lib.hid (ha.arg f1)) (Lib.hid ga) (Lib.hid (by simpa using f1)) (Lib.hid rfl) (Lib.hid (par_txt hab)) (Lib.hid m1.val) (Lib.hid (decide_eq_true rfl)) (Lib.hid hF) (Lib.hid m2.val) (Lib.hid e2)
              (Lib.hid ⟨m3, .inl ⟨q0, q1, rfl, rfl⟩⟩) (Lib.hid m3.val) (Lib.hid ⟨m4, .inl ⟨q0, q1, rfl, rfl⟩⟩) (Lib.hid m4.val) (Lib.hid ⟨m3, .inl ⟨q0, q1, hu.symm, rfl⟩⟩) (Lib.hid m3.val) (Lib.hid ⟨m4, .inl ⟨q0, q1, hi.symm, rfl⟩⟩) (Lib.hid m4.val) (Lib.hid ⟨m7, rfl, by omega, by omega⟩) (Lib.hid m7.val) (Lib.hid (decide_eq_true rfl)) (Lib.hid (decide_eq_true rfl)) (Lib.hid hc)
          | exact back_ok1 an A xs n c z q sg a r (a % 2 ^ q.toNat) (asI q a) _ _ _ _ _ _ _ _ _ _ _ _ _ _ _ w (Lib.hid (ha.arg f1)) (Lib.hid ga) (Lib.hid (by simpa using f1)) (Lib.hid rfl) (Lib.hid (par_txt hab)) (Lib.hid m1.val) (Lib.hid (decide_eq_true rfl)) (Lib.hid hF) (Lib.hid m2.val) (Lib.hid e2)
              (Lib.hid ⟨m3, .inl ⟨q0, q1, rfl, rfl⟩⟩) (Lib.hid m3.val) (Lib.hid ⟨m4, .inl ⟨q0, q1, rfl, rfl⟩⟩) (Lib.hid m4.val) (Lib.hid ⟨m3, .inl ⟨q0, q1, hu.symm, rfl⟩⟩) (Lib.hid m3.val) (Lib.hid ⟨m4, .inl ⟨q0, q1, hi.symm, rfl⟩⟩) (Lib.hid m4.val) (Lib.hid ⟨m7, rfl, by omega, by omega⟩) (Lib.hid m7.val) (Lib.hid (decide_eq_true rfl)) (Lib.hid (decide_eq_true rfl)) (Lib.hid hc)
  · exact back_few an A n c z q sg w f1
end Go.Proofs.Ythaokkmbghgopaa
