/- The document's Text and Parse. -/
import Derived.IntWalk
import Derived.Lib.Hide
import Derived.Test.YtdmodkmliagiiaaDoorX1
import Derived.Test.YtdmodkmliagiiaaDoorT5
namespace Go.Proofs.YtdmodkmliagiiaaDoor
open Go.RowKit


set_option maxHeartbeats 4000000 in
theorem rtext_i (k n p q : Int) (hv : Hid (vk k n = p ∧ vn k n = q)) (b2 : (p == 2) = false) (b3 : (p == 3) = false) (b4 : (p == 4) = false) (h0 : -9223372036854775808 ≤ q) (h1 : q ≤ 9223372036854775807) (T : ByteArray) (hT : Hid ((⟨(Lib.itoa q).toArray⟩ : ByteArray) = T)) (w : World) :
    Calls Tryd.prog 53 #[.agg #[.int .i64 k, .int .i64 n]] w fun e w' => e = .returned (.string T) ∧ Plus w w' := by
  go_enter Tryd.func53, Tryd.ntmps53
  go_wp2_with (first | (go_at_call 59; (with_reducible refine (rgood_h hv _).mono ?_); rintro e w1 ⟨rfl, ⟨x1, rfl⟩⟩) | (go_at_call 78; (with_reducible refine (rdec_v h0 h1 hT _).mono ?_); rintro e w1 ⟨rfl, ⟨x2, rfl⟩⟩))
  go_returns
  exact ⟨rfl, (by repeat' (first | exact Plus.refl _ | refine Plus.alloc ?_ _ | refine Plus.plus ?_ _ | refine Plus.drew ?_ | refine Plus.drewN ?_ _))⟩

set_option maxHeartbeats 4000000 in
theorem rtext_n (k n : Int) (hv : Hid (vk k n = 2 ∧ vn k n = 0)) (w : World) : Calls Tryd.prog 53 #[.agg #[.int .i64 k, .int .i64 n]] w fun e w' => e = .returned (.string ⟨#[78, 97, 78]⟩) ∧ Plus w w' := by
  go_enter Tryd.func53, Tryd.ntmps53
  go_wp2_with (first | (go_at_call 59; (with_reducible refine (rgood_h hv _).mono ?_); rintro e w1 ⟨rfl, ⟨x1, rfl⟩⟩))
  go_returns
  exact ⟨rfl, (by repeat' (first | exact Plus.refl _ | refine Plus.alloc ?_ _ | refine Plus.plus ?_ _ | refine Plus.drew ?_ | refine Plus.drewN ?_ _))⟩

set_option maxHeartbeats 4000000 in
theorem rtext_p (k n : Int) (hv : Hid (vk k n = 3 ∧ vn k n = 0)) (w : World) : Calls Tryd.prog 53 #[.agg #[.int .i64 k, .int .i64 n]] w fun e w' => e = .returned (.string ⟨#[73, 110, 102, 105, 110, 105, 116, 121]⟩) ∧ Plus w w' := by
  go_enter Tryd.func53, Tryd.ntmps53
  go_wp2_with (first | (go_at_call 59; (with_reducible refine (rgood_h hv _).mono ?_); rintro e w1 ⟨rfl, ⟨x1, rfl⟩⟩))
  go_returns
  exact ⟨rfl, (by repeat' (first | exact Plus.refl _ | refine Plus.alloc ?_ _ | refine Plus.plus ?_ _ | refine Plus.drew ?_ | refine Plus.drewN ?_ _))⟩

set_option maxHeartbeats 4000000 in
theorem rtext_m (k n : Int) (hv : Hid (vk k n = 4 ∧ vn k n = 0)) (w : World) : Calls Tryd.prog 53 #[.agg #[.int .i64 k, .int .i64 n]] w fun e w' => e = .returned (.string ⟨#[45, 73, 110, 102, 105, 110, 105, 116, 121]⟩) ∧ Plus w w' := by
  go_enter Tryd.func53, Tryd.ntmps53
  go_wp2_with (first | (go_at_call 59; (with_reducible refine (rgood_h hv _).mono ?_); rintro e w1 ⟨rfl, ⟨x1, rfl⟩⟩))
  go_returns
  exact ⟨rfl, (by repeat' (first | exact Plus.refl _ | refine Plus.alloc ?_ _ | refine Plus.plus ?_ _ | refine Plus.drew ?_ | refine Plus.drewN ?_ _))⟩

theorem rtext_v {k n : Int} {T : ByteArray} (h : Hid ((⟨(txtR k n).toArray⟩ : ByteArray) = T)) (w : World) : Calls Tryd.prog 53 #[.agg #[.int .i64 k, .int .i64 n]] w fun e w' => e = .returned (.string T) ∧ Plus w w' := by
  obtain rfl := h.out
  have hv := isV_v k n
  unfold txtR
  obtain ⟨p, hp⟩ : ∃ p, vk k n = p := ⟨_, rfl⟩
  obtain ⟨q, hq⟩ : ∃ q, vn k n = q := ⟨_, rfl⟩
  rw [hp, hq] at hv
  rw [hp, hq]
  rcases hv with ⟨rfl, h1, h2⟩ | ⟨rfl, rfl⟩ | ⟨rfl, rfl⟩ | ⟨rfl, rfl⟩ | ⟨rfl, rfl⟩
  · exact rtext_i k n 0 q (Lib.hid ⟨hp, hq⟩) (by decide) (by decide) (by decide) (by omega) (by omega) _ (Lib.hid (by unfold txtS; rw [if_neg (by decide), if_neg (by decide), if_neg (by decide)])) w
  · exact rtext_i k n 1 0 (Lib.hid ⟨hp, hq⟩) (by decide) (by decide) (by decide) (by omega) (by omega) _ (Lib.hid (by unfold txtS; rw [if_neg (by decide), if_neg (by decide), if_neg (by decide)])) w
  · exact rtext_n k n (Lib.hid ⟨hp, hq⟩) w
  · exact rtext_p k n (Lib.hid ⟨hp, hq⟩) w
  · exact rtext_m k n (Lib.hid ⟨hp, hq⟩) w

/-- What digits add up to, other signs left out. -/
def fdg (l : List UInt8) : Nat := l.foldl (fun a c => if 48 ≤ c.toNat ∧ c.toNat ≤ 57 then 10 * a + (c.toNat - 48) else a) 0
theorem fdg_snoc (l : List UInt8) (c : UInt8) : fdg (l ++ [c]) = if 48 ≤ c.toNat ∧ c.toNat ≤ 57 then 10 * fdg l + (c.toNat - 48) else fdg l := by simp [fdg, List.foldl_append]
theorem fdg_lt : ∀ (k : Nat) (l : List UInt8), l.length ≤ k → fdg l < 10 ^ k := by
  intro k
  induction k with
  | zero =>
    intro l h
    have : l = [] := List.eq_nil_of_length_eq_zero (by omega)
    subst this
    decide
  | succ k ih =>
    intro l h
    rcases List.eq_nil_or_concat l with rfl | ⟨r, c, rfl⟩
    · show 0 < 10 ^ (k + 1)
      exact Nat.pos_of_ne_zero (by simp)
    · have hr : r.length ≤ k := by simp at h; omega
      have := ih r hr
      rw [List.concat_eq_append, fdg_snoc, Nat.pow_succ]
      split <;> omega
theorem fdg_dd : ∀ (m : Nat), fdg (Lib.decDigits m) = m := fun m => by
  induction m using Nat.strongRecOn with
  | _ m ih =>
    by_cases h : m < 10
    · rw [Lib.decDigits_one h]
      have e : (UInt8.ofNat (48 + m)).toNat = 48 + m := by rw [UInt8.toNat_ofNat']; omega
      show fdg ([] ++ [UInt8.ofNat (48 + m)]) = m
      rw [fdg_snoc, e, if_pos (by omega)]
      show 10 * 0 + _ = _
      omega
    · rw [Lib.decDigits, dif_neg h, fdg_snoc, ih (m / 10) (by omega)]
      have e : (UInt8.ofNat (48 + m % 10)).toNat = 48 + m % 10 := by rw [UInt8.toNat_ofNat']; omega
      rw [e, if_pos (by omega)]
      omega
theorem fdg_cons45 (l : List UInt8) : fdg (45 :: l) = fdg l := by
  unfold fdg
  rw [List.foldl_cons]
  rfl
/-- What the document's Parse reads. -/
def refN (l : List UInt8) : Int := if l.length < 18 then (if l.head? = some 45 then -(fdg l : Int) else fdg l) else 0
theorem refN_bd (l : List UInt8) : -1000000000000000000 < refN l ∧ refN l < 1000000000000000000 := by
  unfold refN
  split
  · have := fdg_lt 18 l (by omega)
    split <;> omega
  · omega
theorem refN_itoa {v : Int} (h1 : -9007199254740991 ≤ v) (h2 : v ≤ 9007199254740991) : refN (Lib.itoa v) = v := by
  have hd : ∀ (k m : Nat), m < 10 ^ (k + 1) → (Lib.decDigits m).length ≤ k + 1 := by
    intro k
    induction k with
    | zero => intro m h; rw [Lib.decDigits_one (by simpa using h)]; simp
    | succ k ih =>
      intro m h
      by_cases q : m < 10
      · rw [Lib.decDigits_one q]; simp
      · rw [Lib.decDigits, dif_neg q, List.length_append]
        have := ih (m / 10) (by rw [Nat.pow_succ] at h; omega)
        simp
        omega
  by_cases h : v < 0
  · obtain ⟨m, hm⟩ : ∃ m : Nat, v = -(m : Int) := ⟨v.natAbs, by omega⟩
    have e : Lib.itoa v = 45 :: Lib.decDigits m := by
      unfold Lib.itoa
      rw [if_pos h, hm]
      simp
    have hl := hd 15 m (by omega)
    rw [e]
    unfold refN
    rw [if_pos (by rw [List.length_cons]; omega), if_pos (show (45 :: Lib.decDigits m).head? = some 45 from rfl), fdg_cons45, fdg_dd]
    omega
  · obtain ⟨m, hm⟩ : ∃ m : Nat, v = (m : Int) := ⟨v.toNat, by omega⟩
    have hl := hd 15 m (by omega)
    rw [hm, Lib.itoa_nonneg]
    obtain ⟨c, r, e, q1, q2⟩ := dd_cons m
    unfold refN
    rw [if_pos (by omega), if_neg (by rw [e]; intro q; injection q with q; subst q; exact absurd q1 (by decide)), fdg_dd]
/-- The document's Parse and Parse. -/
theorem par_ref {l : List UInt8} (n1 : l ≠ [78, 97, 78]) (n2 : l ≠ [73, 110, 102, 105, 110, 105, 116, 121]) (n3 : l ≠ [45, 73, 110, 102, 105, 110, 105, 116, 121]) :
    parS l = if (ofS (refN l)).ok = true ∧ Lib.itoa (refN l) = l then ofS (refN l) else ⟨2, 0, false⟩ := by
  have hb := refN_bd l
  unfold parS
  rw [if_neg n1, if_neg n2, if_neg n3]
  by_cases h : (ofS (refN l)).ok = true ∧ Lib.itoa (refN l) = l
  · rw [if_pos h]
    have ha := atoi_itoa (n := refN l) (by omega) (by omega)
    rw [h.2] at ha
    rw [ha]
    simp only
    rw [if_pos h.2]
  · rw [if_neg h]
    cases q : Lib.atoiAll l with
    | ok v =>
      simp only
      by_cases e : Lib.itoa v = l
      · rw [if_pos e]
        by_cases g : -9007199254740991 ≤ v ∧ v ≤ 9007199254740991
        · exfalso
          apply h
          have e2 := refN_itoa g.1 g.2
          rw [e] at e2
          rw [e2]
          refine ⟨?_, e⟩
          unfold ofS
          rw [if_pos g]
        · unfold ofS
          rw [if_neg g]
      · rw [if_neg e]
    | _ => rfl
end Go.Proofs.YtdmodkmliagiiaaDoor
