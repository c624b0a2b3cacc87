/- Plain facts for NumRests: quotients, rests, order. -/
import Derived.Test.YtdmodkmliagiiaaDoorV
namespace Go.Proofs.YtdmodkmliagiiaaDoor
open Go.RowKit

theorem rests_abs {a b : Int} (hb : b ≠ 0) : max (a.tmod b) (-(a.tmod b)) < max b (-b) := by
  have h : (a.tmod b).natAbs < b.natAbs := by rw [Int.natAbs_tmod]; exact Nat.mod_lt _ (by omega)
  omega
theorem rests_mul {a b : Int} (h : a.tmod b = 0) : a.tdiv b * b = a := Int.tdiv_mul_cancel_of_tmod_eq_zero h
theorem zeroB_ne {b : Int} (hb : b ≠ 0) : zeroB 0 b = false := by simp [zeroB, hb]
section
variable {a b : Int} (ha1 : -9007199254740991 ≤ a) (ha2 : a ≤ 9007199254740991) (hb : b ≠ 0) (hb1 : -9007199254740991 ≤ b) (hb2 : b ≤ 9007199254740991)
include ha1 ha2 hb hb1 hb2
theorem rests_n : (remR 0 a 0 b).n = a.tmod b := by
  have va : IsV 0 a := .inl ⟨rfl, ha1, ha2⟩
  have vb : IsV 0 b := .inl ⟨rfl, hb1, hb2⟩
  unfold remR remS
  rw [vk_of va, vn_of va, vk_of vb, vn_of vb, zeroB_ne hb]
  by_cases h0 : a = 0
  · subst h0; simp [zeroB]
  · rw [zeroB_ne h0]
    by_cases hm : a.tmod b = 0 <;> simp [hm]
theorem rests_k : (remR 0 a 0 b).k = 0 ∨ (remR 0 a 0 b).k = 1 := by
  have va : IsV 0 a := .inl ⟨rfl, ha1, ha2⟩
  have vb : IsV 0 b := .inl ⟨rfl, hb1, hb2⟩
  unfold remR remS
  rw [vk_of va, vn_of va, vk_of vb, vn_of vb, zeroB_ne hb]
  by_cases h0 : a = 0
  · subst h0; simp [zeroB]
  · rw [zeroB_ne h0]
    by_cases hm : a.tmod b = 0
    · simp [hm, zeroK]
    · simp [hm]
theorem rests_ok : (divR 0 a 0 b).ok = decide (a.tmod b = 0) := by
  have va : IsV 0 a := .inl ⟨rfl, ha1, ha2⟩
  have vb : IsV 0 b := .inl ⟨rfl, hb1, hb2⟩
  unfold divR divS
  rw [vk_of va, vn_of va, vk_of vb, vn_of vb, zeroB_ne hb]
  by_cases h0 : a = 0
  · subst h0; simp [zeroB]
  · rw [zeroB_ne h0]
    by_cases hm : a.tmod b = 0
    · have := tdiv_le b ha1 ha2
      simp [hm, ofS, this]
    · simp [hm]
theorem rests_eq : equalR (remR 0 a 0 b).k (remR 0 a 0 b).n 0 0 = decide (a.tmod b = 0) := by
  have hn := rests_n ha1 ha2 hb hb1 hb2
  have hk := rests_k ha1 ha2 hb hb1 hb2
  have ht := rests_abs (a := a) hb
  have v0 : IsV 0 0 := .inl ⟨rfl, by decide, by decide⟩
  have vr : vk (remR 0 a 0 b).k (remR 0 a 0 b).n = (remR 0 a 0 b).k ∧ vn (remR 0 a 0 b).k (remR 0 a 0 b).n = (remR 0 a 0 b).n := by
    unfold remR remS
    have va : IsV 0 a := .inl ⟨rfl, ha1, ha2⟩
    have vb : IsV 0 b := .inl ⟨rfl, hb1, hb2⟩
    rw [vk_of va, vn_of va, vk_of vb, vn_of vb, zeroB_ne hb]
    by_cases h0 : a = 0
    · subst h0; simp [zeroB]; exact ⟨rfl, rfl⟩
    · rw [zeroB_ne h0]
      by_cases hm : a.tmod b = 0
      · simp [hm, zeroK]; cases negB 0 a <;> exact ⟨rfl, rfl⟩
      · simp [hm]
        have v : IsV 0 (a.tmod b) := .inl ⟨rfl, by omega, by omega⟩
        exact ⟨vk_of v, vn_of v⟩
  unfold equalR equalS
  rw [vr.1, vr.2, vk_of v0, vn_of v0, hn]
  rcases hk with h | h <;> rw [h] <;> simp [place, Bool.beq_eq_decide_eq]
theorem rests_back (h : (divR 0 a 0 b).ok = true) : (mulR (divR 0 a 0 b).k (divR 0 a 0 b).n 0 b).ok = true ∧ equalR (mulR (divR 0 a 0 b).k (divR 0 a 0 b).n 0 b).k (mulR (divR 0 a 0 b).k (divR 0 a 0 b).n 0 b).n 0 a = true := by
  rw [rests_ok ha1 ha2 hb hb1 hb2] at h
  have hm : a.tmod b = 0 := of_decide_eq_true h
  have va : IsV 0 a := .inl ⟨rfl, ha1, ha2⟩
  have vb : IsV 0 b := .inl ⟨rfl, hb1, hb2⟩
  by_cases h0 : a = 0
  · subst h0
    have e : divR 0 0 0 b = ⟨zeroK (!(negB 0 0 == negB 0 b)), 0, true⟩ := by
      unfold divR divS
      rw [vk_of va, vn_of va, vk_of vb, vn_of vb, zeroB_ne hb]
      simp [zeroB]
    rw [e]
    have v1 : IsV (zeroK (!(negB 0 0 == negB 0 b))) 0 := by unfold zeroK; split <;> (unfold IsV; simp)
    have hz : zeroB (zeroK (!(negB 0 0 == negB 0 b))) 0 = true := by unfold zeroK zeroB; split <;> simp
    have hk : zeroK (!(negB 0 0 == negB 0 b)) = 0 ∨ zeroK (!(negB 0 0 == negB 0 b)) = 1 := by unfold zeroK; split <;> simp
    generalize zeroK (!(negB 0 0 == negB 0 b)) = k at *
    have e2 : mulR k 0 0 b = ⟨zeroK (!(negB k 0 == negB 0 b)), 0, true⟩ := by
      unfold mulR mulS
      rw [vk_of v1, vn_of v1, vk_of vb, vn_of vb, hz, zeroB_ne hb]
      rcases hk with rfl | rfl <;> simp
    rw [e2]
    refine ⟨rfl, ?_⟩
    cases h9 : (!(negB k 0 == negB 0 b)) <;> kernel_rfl
  · have ht := tdiv_le b ha1 ha2
    have hb' := rests_mul hm
    have e : divR 0 a 0 b = ⟨0, a.tdiv b, true⟩ := by
      unfold divR divS
      rw [vk_of va, vn_of va, vk_of vb, vn_of vb, zeroB_ne hb, zeroB_ne h0]
      simp [hm, ofS, ht]
    rw [e]
    have hq0 : a.tdiv b ≠ 0 := fun hh => h0 (by rw [← hb', hh]; simp)
    generalize a.tdiv b = q at *
    have vq : IsV 0 q := .inl ⟨rfl, ht.1, ht.2⟩
    have e2 : mulR 0 q 0 b = ⟨0, a, true⟩ := by
      unfold mulR mulS
      rw [vk_of vq, vn_of vq, vk_of vb, vn_of vb, zeroB_ne hb, zeroB_ne hq0]
      simp [ofS, hb', ha1, ha2]
    rw [e2]
    refine ⟨rfl, ?_⟩
    unfold equalR equalS
    rw [vk_of va, vn_of va]
    simp
end
theorem lessS_iff (p q r s : Int) : lessS p q r s = true ↔ p ≠ 2 ∧ r ≠ 2 ∧ place p q < place r s := by unfold lessS; simp
theorem equalS_iff (p q r s : Int) : equalS p q r s = true ↔ p ≠ 2 ∧ r ≠ 2 ∧ place p q = place r s := by unfold equalS; simp
theorem less_trans (ak an bk bn ck cn : Int) (h1 : lessR ak an bk bn = true) (h2 : lessR bk bn ck cn = true) : lessR ak an ck cn = true := by
  unfold lessR at *
  rw [lessS_iff] at *
  omega
theorem less_asym (ak an bk bn : Int) (h1 : lessR ak an bk bn = true) : lessR bk bn ak an = false := by
  rw [← Bool.not_eq_true]
  unfold lessR at *
  rw [lessS_iff] at *
  omega
theorem less_ne (ak an bk bn : Int) (h1 : lessR ak an bk bn = true) : equalR ak an bk bn = false := by
  rw [← Bool.not_eq_true]
  unfold lessR equalR at *
  rw [lessS_iff] at *
  rw [equalS_iff]
  omega
end Go.Proofs.YtdmodkmliagiiaaDoor
