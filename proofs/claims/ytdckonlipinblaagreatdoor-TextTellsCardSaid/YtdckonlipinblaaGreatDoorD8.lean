/- Ours and the document's: numbers and keys of texts. -/
import Derived.Test.YtdckonlipinblaaGreatDoorD7
import Derived.Test.YtdckonlipinblaaGreatDoorT3
namespace Go.Proofs.YtdckonlipinblaaGreatDoor
open Go.RowKit


theorem u8_dg {x : Nat} (h : dgB x = true) : 48 ≤ x.toUInt8.toNat ∧ x.toUInt8.toNat ≤ 57 := by
  unfold dgB at h
  simp at h
  rw [toNat_u8 (by omega)]
  omega
theorem dg_low {xs : List Nat} (h : xs.all dgB = true) : low xs = true := by
  unfold low
  rw [List.all_eq_true] at h ⊢
  intro x hx
  have := h x hx
  unfold dgB at this
  simp at this ⊢
  omega
/-- Digits without the noughts ahead are the digits of their number. -/
theorem dd_push (m d : Nat) (hm : 0 < m) (hd : d < 10) : Lib.decDigits (10 * m + d) = Lib.decDigits m ++ [UInt8.ofNat (48 + d)] := by
  rw [Lib.decDigits, dif_neg (by omega), show (10 * m + d) / 10 = m by omega, show (10 * m + d) % 10 = d by omega]
theorem dd_fold : ∀ (xs : List Nat), xs.all dgB = true → ∀ m, 0 < m → Lib.decDigits (xs.foldl (fun n x => 10 * n + (x - 48)) m) = Lib.decDigits m ++ xs.map Nat.toUInt8
  | [], _, m, _ => by simp
  | x :: xs, h, m, hm => by
    rw [List.all_cons, Bool.and_eq_true] at h
    have h1 := h.1
    unfold dgB at h1
    simp at h1
    rw [List.foldl_cons, dd_fold xs h.2 (10 * m + (x - 48)) (by omega), dd_push m (x - 48) hm (by omega), List.append_assoc, List.map_cons]
    congr 1
    show [UInt8.ofNat (48 + (x - 48))] ++ _ = _
    rw [show 48 + (x - 48) = x by omega]
    rfl
theorem wz_vd : ∀ (xs : List Nat), xs.all dgB = true → wzT (xs.map Nat.toUInt8) = Lib.decDigits (vd xs)
  | [], _ => by
    show wzT [] = Lib.decDigits 0
    rw [Lib.decDigits_one (by omega)]
    decide
  | x :: xs, h => by
    have hs := h
    rw [List.all_cons, Bool.and_eq_true] at h
    have h1 := h.1
    unfold dgB at h1
    simp at h1
    by_cases h0 : x = 48
    · subst h0
      have e1 : vd (48 :: xs) = vd xs := rfl
      have e2 : wzT ((48 :: xs).map Nat.toUInt8) = wzT (xs.map Nat.toUInt8) := by
        unfold wzT Lib.trimLeftS
        rw [List.map_cons]
        have : ((48 : Nat).toUInt8 :: xs.map Nat.toUInt8).dropWhile (([48] : List UInt8).contains ·) = (xs.map Nat.toUInt8).dropWhile (([48] : List UInt8).contains ·) := by
          rw [List.dropWhile_cons, if_pos (by decide)]
        rw [this]
      rw [e1, e2]
      exact wz_vd xs h.2
    · have e1 : vd (x :: xs) = xs.foldl (fun n x => 10 * n + (x - 48)) (x - 48) := by unfold vd; rw [List.foldl_cons]; congr 1; omega
      have hx : x.toUInt8.toNat = x := toNat_u8 (by omega)
      have e2 : wzT ((x :: xs).map Nat.toUInt8) = (x :: xs).map Nat.toUInt8 := by
        have hd : (x.toUInt8 :: xs.map Nat.toUInt8).dropWhile (([48] : List UInt8).contains ·) = x.toUInt8 :: xs.map Nat.toUInt8 := by
          rw [List.dropWhile_cons, if_neg]
          intro q
          simp at q
          have q2 := congrArg UInt8.toNat q
          rw [hx] at q2
          first | exact h0 q2 | exact h0 q2.symm
        unfold wzT Lib.trimLeftS
        rw [List.map_cons, hd]
        rfl
      rw [e1, e2, dd_fold xs h.2 (x - 48) (by omega), Lib.decDigits_one (by omega), List.map_cons]
      show x.toUInt8 :: _ = UInt8.ofNat (48 + (x - 48)) :: _
      rw [show 48 + (x - 48) = x by omega]
      rfl
def valU (l : List UInt8) : Nat := l.foldl (fun n x => 10 * n + (x.toNat - 48)) 0
theorem val_dd : ∀ (m : Nat), valU (Lib.decDigits m) = m := fun m => by
  induction m using Nat.strongRecOn with
  | _ m ih =>
    by_cases h : m < 10
    · rw [Lib.decDigits_one h]
      show 10 * 0 + ((UInt8.ofNat (48 + m)).toNat - 48) = m
      rw [UInt8.toNat_ofNat']
      omega
    · rw [Lib.decDigits, dif_neg h]
      unfold valU
      rw [List.foldl_append]
      show 10 * valU (Lib.decDigits (m / 10)) + ((UInt8.ofNat (48 + m % 10)).toNat - 48) = m
      rw [ih (m / 10) (by omega), UInt8.toNat_ofNat']
      omega
theorem itoa_minus {v : Int} (h : v < 0) : ∃ r, Lib.itoa v = 45 :: r := by
  unfold Lib.itoa
  rw [if_pos h]
  exact ⟨_, rfl⟩
/-- A number of digits that is too great has no number. -/
theorem par_over {m : Nat} (hm : 9007199254740991 < m) : parS (Lib.decDigits m) = ⟨2, 0, false⟩ := by
  unfold parS
  rw [if_neg (not_name (dd_dig m) 78 _ (by decide)), if_neg (not_name (dd_dig m) 73 _ (by decide)), if_neg (not_name (dd_dig m) 45 _ (by decide))]
  split
  · rename_i v hv
    by_cases hi : Lib.itoa v = Lib.decDigits m
    · rw [if_pos hi]
      have hv2 : v = (m : Int) := by
        by_cases hn : v < 0
        · obtain ⟨r, hr⟩ := itoa_minus hn
          rw [hr] at hi
          have := dd_dig m 45 (by rw [← hi]; simp)
          exact absurd this.1 (by decide)
        · obtain ⟨u, rfl⟩ : ∃ u : Nat, v = u := ⟨v.toNat, by omega⟩
          rw [Lib.itoa_nonneg] at hi
          have e := congrArg valU hi
          rw [val_dd, val_dd] at e
          omega
      subst hv2
      unfold ofS
      rw [if_neg (by omega)]
    · rw [if_neg hi]
  · rfl

/-- Digits as a number. -/
theorem par_vd {xs : List Nat} (h : xs.all dgB = true) : parS (wzT (xs.map Nat.toUInt8)) = if vd xs ≤ 9007199254740991 then ⟨0, (vd xs : Int), true⟩ else ⟨2, 0, false⟩ := by
  rw [wz_vd xs h]
  by_cases q : vd xs ≤ 9007199254740991
  · rw [if_pos q, par_dd q]
  · rw [if_neg q, par_over (by omega)]
theorem u8_inj {x y : Nat} (hx : x < 128) (hy : y < 128) (h : x.toUInt8 = y.toUInt8) : x = y := by
  have := congrArg UInt8.toNat h
  rw [toNat_u8 (by omega), toNat_u8 (by omega)] at this
  exact this
theorem map_inj : ∀ (xs ys : List Nat), low xs = true → low ys = true → xs.map Nat.toUInt8 = ys.map Nat.toUInt8 → xs = ys
  | [], [], _, _, _ => rfl
  | [], _ :: _, _, _, h => by simp at h
  | _ :: _, [], _, _, h => by simp at h
  | x :: xs, y :: ys, hx, hy, h => by
    unfold low at hx hy
    rw [List.all_cons, Bool.and_eq_true] at hx hy
    rw [List.map_cons, List.map_cons] at h
    injection h with h1 h2
    have e1 : x = y := u8_inj (by simpa using hx.1) (by simpa using hy.1) h1
    rw [e1, map_inj xs ys hx.2 hy.2 h2]
theorem low_cons {x : Nat} {xs : List Nat} (h : low (x :: xs) = true) : x < 128 ∧ low xs = true := by
  unfold low at h
  rw [List.all_cons, Bool.and_eq_true] at h
  exact ⟨by simpa using h.1, h.2⟩
/-- The text behind the sign. -/
theorem uns_drop {t : List Nat} (ht : low t = true) (h0 : t ≠ []) : unsT (t.map Nat.toUInt8) = (dropS t).map Nat.toUInt8 ∧ Lib.hasPrefix (t.map Nat.toUInt8) [45] = sgB t := by
  cases t with
  | nil => exact absurd rfl h0
  | cons v r =>
    obtain ⟨hv, _⟩ := low_cons ht
    have hp : ∀ b : Nat, b < 128 → Lib.hasPrefix ((v :: r).map Nat.toUInt8) [b.toUInt8] = decide (v = b) := fun b hb => by
      unfold Lib.hasPrefix
      rw [List.map_cons]
      simp only [List.isPrefixOf, Bool.and_true]
      rw [Bool.eq_iff_iff]
      simp
      constructor
      · intro e; exact (u8_inj hb hv e).symm
      · intro e; rw [e]
    have h45 := hp 45 (by decide)
    have h43 := hp 43 (by decide)
    have c45 : (45 : Nat).toUInt8 = 45 := rfl
    have c43 : (43 : Nat).toUInt8 = 43 := rfl
    rw [c45] at h45
    rw [c43] at h43
    unfold unsT Lib.trimPrefix sgB dropS
    rw [h45, h43]
    refine ⟨?_, rfl⟩
    simp only [List.getD_cons_zero]
    by_cases q : v = 45
    · simp [q]
    · by_cases q2 : v = 43
      · simp [q2]
      · simp [q, q2]
theorem trimS_low {t : List Nat} (h1 : blankB (t.getD 0 0) = false) (h2 : blankB (t.getD (t.length - 1) 0) = false) (hl : low t = true) (h0 : t ≠ []) : Lib.trimS (t.map Nat.toUInt8) blankS = t.map Nat.toUInt8 := by
  have hb : ∀ x : Nat, x < 128 → blankB x = false → blankS.contains x.toUInt8 = false := fun x hx hb => by
    unfold blankB at hb
    simp at hb
    have e : ∀ y : Nat, y < 128 → x ≠ y → ¬ x.toUInt8 = y.toUInt8 := fun y hy q e => q (u8_inj hx hy e)
    unfold blankS
    simp
    exact ⟨e 32 (by decide) (by omega), e 9 (by decide) (by omega), e 10 (by decide) (by omega), e 13 (by decide) (by omega)⟩
  have hlow : ∀ x ∈ t, x < 128 := fun x hx => by
    unfold low at hl
    have := List.all_eq_true.1 hl x hx
    simpa using this
  have hr : Lib.trimRightS (t.map Nat.toUInt8) blankS = t.map Nat.toUInt8 := by
    unfold Lib.trimRightS
    obtain ⟨s, z, rfl⟩ : ∃ s z, t = s ++ [z] := ⟨t.dropLast, t.getLast h0, (List.dropLast_concat_getLast h0).symm⟩
    have hz : blankB z = false := by
      rw [List.length_append, show s.length + [z].length - 1 = s.length by simp] at h2
      rw [List.getD_eq_getElem?_getD, List.getElem?_append_right (Nat.le_refl _)] at h2
      simpa using h2
    rw [List.map_append, List.reverse_append]
    show (List.dropWhile _ (z.toUInt8 :: _)).reverse = _
    rw [List.dropWhile_cons, if_neg (by rw [hb z (hlow z (by simp)) hz]; simp)]
    simp
  unfold Lib.trimS
  rw [hr]
  unfold Lib.trimLeftS
  cases t with
  | nil => rfl
  | cons v r =>
    rw [List.map_cons, List.dropWhile_cons, if_neg (by rw [hb v (hlow v (by simp)) (by simpa using h1)]; simp)]
theorem dw_nil {p : UInt8 → Bool} : ∀ {l : List UInt8}, l.dropWhile p = [] → ∀ x ∈ l, p x = true
  | [], _, x, hx => by cases hx
  | y :: l, h, x, hx => by
    rw [List.dropWhile_cons] at h
    by_cases q : p y = true
    · rw [if_pos q] at h
      rcases List.mem_cons.1 hx with e | e
      · rw [e]; exact q
      · exact dw_nil h x e
    · rw [if_neg q] at h
      cases h
theorem dw_head {p : UInt8 → Bool} : ∀ {l : List UInt8} {y : UInt8} {ys : List UInt8}, l.dropWhile p = y :: ys → p y = false
  | [], _, _, h => by cases h
  | z :: l, y, ys, h => by
    rw [List.dropWhile_cons] at h
    by_cases q : p z = true
    · rw [if_pos q] at h
      exact dw_head h
    · rw [if_neg q] at h
      injection h with h _
      rw [← h]
      simpa using q
theorem trim_nil_iff (c : List UInt8) (l : List UInt8) : Lib.trimS l c = [] ↔ ∀ x ∈ l, c.contains x = true := by
  constructor
  · intro h
    have h1 : Lib.trimRightS l c = [] ∨ ∀ x ∈ Lib.trimRightS l c, c.contains x = true := by
      right
      unfold Lib.trimS Lib.trimLeftS at h
      exact dw_nil h
    have h2 : ∀ x ∈ Lib.trimRightS l c, c.contains x = true := by
      rcases h1 with h1 | h1
      · rw [h1]; intro x hx; cases hx
      · exact h1
    unfold Lib.trimRightS at h2
    have h3 : l.reverse.dropWhile (c.contains ·) = [] := by
      cases q : l.reverse.dropWhile (c.contains ·) with
      | nil => rfl
      | cons y ys =>
        have hy := h2 y (by rw [q]; simp)
        have := dw_head q
        rw [this] at hy
        cases hy
    have h4 := dw_nil h3
    intro x hx
    exact h4 x (List.mem_reverse.2 hx)
  · exact trim_all l c
end Go.Proofs.YtdckonlipinblaaGreatDoor
