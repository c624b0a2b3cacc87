/- Ours and the document's agree. -/
import Derived.Test.YtdckonlipinblaaGreatDoorD8
namespace Go.Proofs.YtdckonlipinblaaGreatDoor
open Go.RowKit

theorem dec_le : ∀ (k m : Nat), m < 10 ^ (k + 1) → (Lib.decDigits m).length ≤ k + 1
  | 0, m, h => by rw [Lib.decDigits_one (by simpa using h)]; simp
  | k + 1, m, h => by
    by_cases q : m < 10
    · rw [Lib.decDigits_one q]; simp
    · rw [Lib.decDigits, dif_neg q, List.length_append]
      have := dec_le k (m / 10) (by rw [Nat.pow_succ] at h; omega)
      simp
      omega

theorem plS_low {xs : List Nat} (h : low xs = true) : (plS xs).data.toList = xs.map Nat.toUInt8 := by unfold plS; rw [if_pos h]; rfl
theorem set_dig : (List.range 128).all (fun x => digS.contains x.toUInt8 == dgB x) = true := by kernel_rfl
theorem set_num : (List.range 128).all (fun x => numS.contains x.toUInt8 == numOk x) = true := by kernel_rfl
theorem dig_eq {x : Nat} (h : x < 128) : digS.contains x.toUInt8 = dgB x := by
  have := List.all_eq_true.1 set_dig x (List.mem_range.2 h)
  simpa using this
theorem num_eq {x : Nat} (h : x < 128) : numS.contains x.toUInt8 = numOk x := by
  have := List.all_eq_true.1 set_num x (List.mem_range.2 h)
  simpa using this
theorem low_mem {t : List Nat} (hl : low t = true) : ∀ x ∈ t, x < 128 := fun x hx => by
  unfold low at hl
  have := List.all_eq_true.1 hl x hx
  simpa using this
theorem any_eq (c : List UInt8) : ∀ l : List UInt8, Lib.containsAny l c = l.any (c.contains ·)
  | [] => by unfold Lib.containsAny Lib.indexAny; rfl
  | b :: l => by
    have ih := any_eq c l
    have hg := Lib.indexAny_ge c l
    unfold Lib.containsAny at ih ⊢
    rw [List.any_cons, ← ih, Lib.indexAny]
    cases hb : c.contains b
    · rw [if_neg (by simp), Bool.false_or]
      by_cases q : Lib.indexAny l c = -1
      · rw [if_pos (by simpa using q), q]
      · rw [if_neg (by simpa using q), Bool.eq_iff_iff]
        simp
        omega
    · rw [if_pos rfl]
      rfl
theorem has_dig {t : List Nat} (hl : low t = true) : Lib.containsAny (t.map Nat.toUInt8) digS = t.any dgB := by
  have hm := low_mem hl
  rw [any_eq, Bool.eq_iff_iff, List.any_eq_true, List.any_eq_true]
  constructor
  · intro h
    obtain ⟨y, hy, h⟩ := h
    obtain ⟨x, hx, rfl⟩ := List.mem_map.1 hy
    rw [dig_eq (hm x hx)] at h
    exact ⟨x, hx, h⟩
  · intro h
    obtain ⟨x, hx, h⟩ := h
    exact ⟨x.toUInt8, List.mem_map.2 ⟨x, hx, rfl⟩, by rw [dig_eq (hm x hx)]; exact h⟩
theorem all_num {t : List Nat} (hl : low t = true) : decide (Lib.trimS (t.map Nat.toUInt8) numS = []) = t.all numOk := by
  have hm := low_mem hl
  rw [Bool.eq_iff_iff, decide_eq_true_iff, trim_nil_iff, List.all_eq_true]
  constructor
  · intro h x hx
    rw [← num_eq (hm x hx)]
    exact h _ (List.mem_map.2 ⟨x, hx, rfl⟩)
  · intro h y hy
    obtain ⟨x, hx, rfl⟩ := List.mem_map.1 hy
    rw [num_eq (hm x hx)]
    exact h x hx
theorem all_dig {t : List Nat} (hl : low t = true) : Lib.trimS (t.map Nat.toUInt8) digS = [] ↔ t.all dgB = true := by
  have hm := low_mem hl
  rw [trim_nil_iff, List.all_eq_true]
  constructor
  · intro h x hx
    rw [← dig_eq (hm x hx)]
    exact h _ (List.mem_map.2 ⟨x, hx, rfl⟩)
  · intro h y hy
    obtain ⟨x, hx, rfl⟩ := List.mem_map.1 hy
    rw [dig_eq (hm x hx)]
    exact h x hx
theorem numOk_low {x : Nat} (h : numOk x = true) : x < 128 := by
  unfold numOk numJ numBase dgB otL at h
  simp at h
  omega
theorem low_of {t : List Nat} {p : Nat → Bool} (hp : ∀ x, p x = true → x < 128) (h : t.all p = true) : low t = true := by
  unfold low
  rw [List.all_eq_true] at h ⊢
  intro x hx
  simpa using hp x (h x hx)
theorem drop_low {t : List Nat} (h0 : t ≠ []) : low (dropS t) = low t := by
  cases t with
  | nil => exact absurd rfl h0
  | cons v r =>
    unfold dropS
    simp only [List.getD_cons_zero]
    by_cases q : v = 45 ∨ v = 43
    · rw [if_pos q]
      show low r = low (v :: r)
      unfold low
      rw [List.all_cons]
      have : decide (v < 128) = true := by simp; omega
      rw [this, Bool.true_and]
    · rw [if_neg q]
theorem num_mid {t : List Nat} (h : t ≠ [] → blankB (t.getD 0 0) = false ∧ blankB (t.getD (t.length - 1) 0) = false) : numU t = rNum t := by
  by_cases h0 : t = []
  · subst h0
    rfl
  obtain ⟨h1, h2⟩ := h h0
  unfold numU rNum
  rw [if_neg h0]
  have hd := drop_low h0
  cases hl : low t
  · rw [hl] at hd
    have n1 : dropS t ≠ infN := fun e => by rw [e] at hd; exact absurd hd (by decide)
    have n2 : dgs (dropS t) = false := by
      unfold dgs
      rw [Bool.and_eq_false_iff]
      left
      rw [Bool.eq_false_iff]
      intro q
      rw [dg_low q] at hd
      cases hd
    have n3 : numR t = false := by
      unfold numR
      rw [Bool.and_eq_false_iff]
      left
      rw [Bool.eq_false_iff]
      intro q
      rw [low_of (fun _ => numOk_low) q] at hl
      cases hl
    rw [if_neg (by simp), if_neg n1, n2, n3]
    rfl
  · rw [hl] at hd
    rw [if_pos rfl, trimS_low h1 h2 hl h0]
    obtain ⟨hu, hp⟩ := uns_drop hl h0
    unfold numT
    rw [if_neg (by simpa using h0), hu, hp]
    by_cases c1 : dropS t = infN
    · rw [if_pos c1, if_pos (by rw [c1]; decide)]
    · rw [if_neg c1, if_neg (fun e => c1 (map_inj _ _ hd (by decide) (by rw [e]; decide)))]
      cases c2 : dgs (dropS t)
      · have n2 : ¬ ((dropS t).map Nat.toUInt8 ≠ [] ∧ Lib.trimS ((dropS t).map Nat.toUInt8) digS = []) := by
          rintro ⟨q1, q2⟩
          rw [all_dig hd] at q2
          unfold dgs at c2
          rw [q2, Bool.true_and] at c2
          apply q1
          have : (dropS t).length = 0 := by simpa using c2
          rw [List.eq_nil_of_length_eq_zero this]
          rfl
        rw [if_neg n2, has_dig hl, all_num hl, Bool.and_comm]
        rfl
      · have c3 := c2
        unfold dgs at c3
        rw [Bool.and_eq_true] at c3
        have hne : (dropS t).map Nat.toUInt8 ≠ [] := fun e => by
          have e2 := congrArg List.length e
          rw [List.length_map] at e2
          have := c3.2
          simp only [decide_eq_true_eq] at this
          rw [e2] at this
          exact absurd this (by simp)
        rw [if_pos ⟨hne, (all_dig hd).2 c3.1⟩, if_pos rfl, par_vd c3.1]
        by_cases q : vd (dropS t) ≤ 9007199254740991
        · rw [if_pos q, if_pos q]
        · rw [if_neg q, if_neg q]
          cases sgB t <;> rfl
theorem numU_mid {xs mid : List Nat} (h : TrimOf xs mid) : numU xs = rNum mid := by
  obtain ⟨b1, b2, rfl, h1, h2, h3⟩ := h
  rw [num_around h1 h2, num_mid h3]
theorem vd_val {xs : List Nat} (h : low xs = true) : ∀ m, xs.foldl (fun n x => 10 * n + (x - 48)) m = (xs.map Nat.toUInt8).foldl (fun n x => 10 * n + (x.toNat - 48)) m := by
  induction xs with
  | nil => intro m; rfl
  | cons x xs ih =>
    intro m
    obtain ⟨hx, hl⟩ := low_cons h
    rw [List.foldl_cons, List.map_cons, List.foldl_cons, toNat_u8 (by omega), ih hl]
theorem ky_same (xs : List Nat) : ((parS (plS xs).data.toList).ok = true ∧ (parS (plS xs).data.toList).k = 0 ∧ 0 ≤ (parS (plS xs).data.toList).n ∧ (parS (plS xs).data.toList).n ≤ 4294967294) ∧ kyI xs = (parS (plS xs).data.toList).n ∧ kyB xs = true ∨ ¬ ((parS (plS xs).data.toList).ok = true ∧ (parS (plS xs).data.toList).k = 0 ∧ 0 ≤ (parS (plS xs).data.toList).n ∧ (parS (plS xs).data.toList).n ≤ 4294967294) ∧ kyI xs = 0 ∧ kyB xs = false := by
  cases hk : kyB xs
  · right
    refine ⟨?_, by unfold kyI; rw [hk]; rfl, rfl⟩
    rintro ⟨o1, o2, o3, o4⟩
    obtain ⟨n, hn⟩ : ∃ n, (parS (plS xs).data.toList).n = n := ⟨_, rfl⟩
    have hP : parS (plS xs).data.toList = ⟨0, n, true⟩ := by rw [← hn, ← o1, ← o2]
    rw [hn] at o3 o4
    have hD := par_key hP rfl o3
    cases hl : low xs
    · have e : (plS xs).data.toList = [] := by unfold plS; rw [hl]; rfl
      rw [e] at hD
      exact dd_ne _ hD.symm
    · rw [plS_low hl] at hD
      have hm := low_mem hl
      have hall : xs.all dgB = true := by
        rw [List.all_eq_true]
        intro x hx
        have := dd_dig n.toNat x.toUInt8 (by rw [← hD]; exact List.mem_map.2 ⟨x, hx, rfl⟩)
        have hx2 := hm x hx
        rw [toNat_u8 (by omega)] at this
        unfold dgB
        simp
        exact this
      have hv : vd xs = n.toNat := by
        have e := vd_val hl 0
        unfold vd
        rw [e, hD]
        exact val_dd _
      have hlen : xs.length ≤ 10 := by
        have e := congrArg List.length hD
        rw [List.length_map] at e
        rw [e]
        exact dec_le 9 n.toNat (by omega)
      have hpos : 0 < xs.length := by
        apply Nat.pos_of_ne_zero
        intro e
        rw [List.eq_nil_of_length_eq_zero e] at hD
        exact dd_ne _ hD.symm
      have hz : ¬ (xs.getD 0 0 = 48 ∧ 1 < xs.length) := by
        rintro ⟨q1, q2⟩
        cases xs with
        | nil => simp at hpos
        | cons x r =>
          have q1' : x = 48 := q1
          subst q1'
          rcases Nat.eq_zero_or_pos n.toNat with e | e
          · rw [e, Lib.decDigits_one (i := 0) (by omega)] at hD
            have := congrArg List.length hD
            rw [List.length_map] at this
            simp at this
            subst this
            simp at q2
          · obtain ⟨c, r2, e2, q⟩ := dd_head n.toNat e
            rw [e2, List.map_cons] at hD
            injection hD with q2 _
            exact q (by rw [← q2]; rfl)
      have : kyB xs = true := by
        unfold kyB dgs
        rw [hall, hv]
        have b1 : (decide (xs.getD 0 0 = 48) && decide (1 < xs.length)) = false := by
          rw [Bool.eq_false_iff]
          intro q
          rw [Bool.and_eq_true] at q
          exact hz ⟨by simpa using q.1, by simpa using q.2⟩
        rw [b1]
        simp
        exact ⟨⟨hpos, hlen⟩, by omega⟩
      rw [hk] at this
      cases this
  · left
    have hk2 := hk
    unfold kyB dgs at hk2
    simp only [Bool.and_eq_true, Bool.not_eq_true', decide_eq_true_eq] at hk2
    obtain ⟨⟨⟨⟨hall, hpos⟩, hlen⟩, hz⟩, hv⟩ := hk2
    have hl := dg_low hall
    have hw : wzT (xs.map Nat.toUInt8) = xs.map Nat.toUInt8 := by
      cases xs with
      | nil => simp at hpos
      | cons x r =>
        by_cases hx : x = 48
        · subst hx
          have : r = [] := by
            cases r with
            | nil => rfl
            | cons y r => simp at hz
          subst this
          decide
        · have hd : (x.toUInt8 :: r.map Nat.toUInt8).dropWhile (([48] : List UInt8).contains ·) = x.toUInt8 :: r.map Nat.toUInt8 := by
            rw [List.dropWhile_cons, if_neg]
            intro q
            simp at q
            have q2 := congrArg UInt8.toNat q
            rw [toNat_u8 (by have := (low_cons hl).1; omega)] at q2
            first | exact hx q2 | exact hx q2.symm
          unfold wzT Lib.trimLeftS
          rw [List.map_cons, hd]
          rfl
    have hP : parS (plS xs).data.toList = ⟨0, (vd xs : Int), true⟩ := by
      rw [plS_low hl, ← hw, par_vd hall, if_pos (by omega)]
    rw [hP]
    refine ⟨⟨rfl, rfl, by show (0 : Int) ≤ vd xs; omega, by show (vd xs : Int) ≤ 4294967294; omega⟩, by unfold kyI; rw [hk]; rfl, rfl⟩
end Go.Proofs.YtdckonlipinblaaGreatDoor
