/- Digits as a text: the number and the index of an int's text. -/
import Derived.Test.YtmlfcmmgoiigkaaGreatDoorVD
namespace Go.Proofs.YtmlfcmmgoiigkaaGreatDoor
open Go.RowKit

def blankB (x : Nat) : Bool := x == 32 || x == 9 || x == 10 || x == 13
theorem dw_all {p : UInt8 → Bool} : ∀ a b : List UInt8, (∀ x ∈ a, p x = true) → (a ++ b).dropWhile p = b.dropWhile p
  | [], _, _ => rfl
  | x :: a, b, h => by
    rw [List.cons_append, List.dropWhile_cons, if_pos (h x (by simp))]
    exact dw_all a b fun y hy => h y (List.mem_cons_of_mem _ hy)
theorem dw_some {p : UInt8 → Bool} : ∀ a b : List UInt8, (∃ x ∈ a, p x = false) → (a ++ b).dropWhile p = a.dropWhile p ++ b
  | [], _, h => by obtain ⟨x, hx, _⟩ := h; simp at hx
  | x :: a, b, h => by
    rw [List.cons_append, List.dropWhile_cons, List.dropWhile_cons]
    by_cases q : p x = true
    · rw [if_pos q, if_pos q]
      refine dw_some a b ?_
      obtain ⟨y, hy, hy2⟩ := h
      rcases List.mem_cons.1 hy with e | e
      · rw [e, q] at hy2; cases hy2
      · exact ⟨y, e, hy2⟩
    · rw [if_neg q, if_neg q]; rfl
theorem trim_around (c b1 l b2 : List UInt8) (h1 : ∀ x ∈ b1, c.contains x = true) (h2 : ∀ x ∈ b2, c.contains x = true) : Lib.trimS (b1 ++ l ++ b2) c = Lib.trimS l c := by
  unfold Lib.trimS
  have e1 : Lib.trimRightS (b1 ++ l ++ b2) c = Lib.trimRightS (b1 ++ l) c := by
    unfold Lib.trimRightS
    rw [List.reverse_append, dw_all _ _ (fun x hx => h2 x (List.mem_reverse.1 hx))]
  rw [e1]
  by_cases hl : ∃ x ∈ l, c.contains x = false
  · have e2 : Lib.trimRightS (b1 ++ l) c = b1 ++ Lib.trimRightS l c := by
      unfold Lib.trimRightS
      rw [List.reverse_append, dw_some _ _ (by obtain ⟨x, hx, hx2⟩ := hl; exact ⟨x, List.mem_reverse.2 hx, hx2⟩), List.reverse_append, List.reverse_reverse]
    rw [e2]
    unfold Lib.trimLeftS
    exact dw_all _ _ h1
  · have hl2 : ∀ x ∈ l, c.contains x = true := fun x hx => by
      cases q : c.contains x
      · exact absurd ⟨x, hx, q⟩ hl
      · rfl
    have e3 : Lib.trimRightS l c = [] := by
      unfold Lib.trimRightS
      have := dw_all (p := (c.contains ·)) l.reverse [] (fun x hx => hl2 x (List.mem_reverse.1 hx))
      rw [List.append_nil] at this
      rw [this]
      rfl
    have e4 : Lib.trimRightS (b1 ++ l) c = [] := by
      unfold Lib.trimRightS
      have := dw_all (p := (c.contains ·)) (b1 ++ l).reverse [] (fun x hx => by
        rcases List.mem_append.1 (List.mem_reverse.1 hx) with h | h
        · exact h1 x h
        · exact hl2 x h)
      rw [List.append_nil] at this
      rw [this]
      rfl
    rw [e3, e4]
theorem blank_in {b : List Nat} (h : b.all blankB = true) : ∀ x ∈ b.map Nat.toUInt8, blankS.contains x = true := fun x hx => by
  obtain ⟨y, hy, rfl⟩ := List.mem_map.1 hx
  have := List.all_eq_true.1 h y hy
  unfold blankB at this
  simp at this
  rcases this with ((rfl | rfl) | rfl) | rfl <;> decide
theorem blank_low {b : List Nat} (h : b.all blankB = true) : low b = true := by
  unfold low
  rw [List.all_eq_true] at h ⊢
  intro x hx
  have := h x hx
  unfold blankB at this
  simp at this
  simp
  omega
theorem num_around {b1 xs b2 : List Nat} (h1 : b1.all blankB = true) (h2 : b2.all blankB = true) : numU (b1 ++ xs ++ b2) = numU xs := by
  have e : low (b1 ++ xs ++ b2) = low xs := by
    have l1 := blank_low h1
    have l2 := blank_low h2
    unfold low at l1 l2 ⊢
    rw [List.all_append, List.all_append, l1, l2]
    simp
  unfold numU
  rw [e, List.map_append, List.map_append, trim_around _ _ _ _ (blank_in h1) (blank_in h2)]
theorem dw_none {p : UInt8 → Bool} : ∀ l : List UInt8, (∀ x ∈ l, p x = false) → l.dropWhile p = l
  | [], _ => rfl
  | x :: l, h => by rw [List.dropWhile_cons, if_neg (by rw [h x (by simp)]; simp)]
theorem trim_none (l c : List UInt8) (h : ∀ x ∈ l, c.contains x = false) : Lib.trimS l c = l := by
  unfold Lib.trimS Lib.trimRightS Lib.trimLeftS
  rw [dw_none l.reverse (fun x hx => h x (List.mem_reverse.1 hx)), List.reverse_reverse, dw_none l h]
theorem dw_to_nil {p : UInt8 → Bool} : ∀ l : List UInt8, (∀ x ∈ l, p x = true) → l.dropWhile p = []
  | [], _ => rfl
  | x :: l, h => by rw [List.dropWhile_cons, if_pos (h x (by simp))]; exact dw_to_nil l fun y hy => h y (List.mem_cons_of_mem _ hy)
theorem trim_all (l c : List UInt8) (h : ∀ x ∈ l, c.contains x = true) : Lib.trimS l c = [] := by
  unfold Lib.trimS Lib.trimRightS
  rw [dw_to_nil l.reverse (fun x hx => h x (List.mem_reverse.1 hx))]
  rfl
theorem dig_in {x : UInt8} (h : 48 ≤ x.toNat ∧ x.toNat ≤ 57) : digS.contains x = true ∧ blankS.contains x = false := by
  obtain ⟨h1, h2⟩ := h
  have hn : x.toNat = 48 ∨ x.toNat = 49 ∨ x.toNat = 50 ∨ x.toNat = 51 ∨ x.toNat = 52 ∨ x.toNat = 53 ∨ x.toNat = 54 ∨ x.toNat = 55 ∨ x.toNat = 56 ∨ x.toNat = 57 := by omega
  rcases hn with q | q | q | q | q | q | q | q | q | q
  · obtain rfl : x = 48 := UInt8.toNat_inj.1 q
    decide
  · obtain rfl : x = 49 := UInt8.toNat_inj.1 q
    decide
  · obtain rfl : x = 50 := UInt8.toNat_inj.1 q
    decide
  · obtain rfl : x = 51 := UInt8.toNat_inj.1 q
    decide
  · obtain rfl : x = 52 := UInt8.toNat_inj.1 q
    decide
  · obtain rfl : x = 53 := UInt8.toNat_inj.1 q
    decide
  · obtain rfl : x = 54 := UInt8.toNat_inj.1 q
    decide
  · obtain rfl : x = 55 := UInt8.toNat_inj.1 q
    decide
  · obtain rfl : x = 56 := UInt8.toNat_inj.1 q
    decide
  · obtain rfl : x = 57 := UInt8.toNat_inj.1 q
    decide
/-- One of digits, with noughts ahead. -/
theorem uns_dig {l : List UInt8} (h : ∀ x ∈ l, 48 ≤ x.toNat ∧ x.toNat ≤ 57) : unsT l = l ∧ Lib.hasPrefix l [45] = false := by
  have hp : ∀ b : UInt8, b.toNat < 48 → Lib.hasPrefix l [b] = false := fun b hb => by
    unfold Lib.hasPrefix
    cases l with
    | nil => rfl
    | cons c r =>
      have := h c (by simp)
      simp [List.isPrefixOf]
      intro e
      subst e
      omega
  unfold unsT Lib.trimPrefix
  rw [hp 45 (by decide), hp 43 (by decide)]
  simp
theorem num_dig {l : List UInt8} (h0 : l ≠ []) (h : ∀ x ∈ l, 48 ≤ x.toNat ∧ x.toNat ≤ 57) : numT (Lib.trimS l blankS) = ⟨(parS (wzT l)).k, (parS (wzT l)).n, (parS (wzT l)).ok⟩ := by
  rw [trim_none l blankS fun x hx => (dig_in (h x hx)).2]
  obtain ⟨h1, h2⟩ := uns_dig h
  unfold numT
  rw [if_neg h0, h1, h2, if_neg, if_pos ⟨h0, trim_all l digS fun x hx => (dig_in (h x hx)).1⟩]
  · rfl
  · rintro rfl
    exact absurd (h 73 (by decide)).2 (by decide)
theorem wz_dd (m : Nat) : wzT (Lib.decDigits m) = Lib.decDigits m := by
  rcases Nat.eq_zero_or_pos m with rfl | h
  · rw [Lib.decDigits_one (by omega)]; decide
  · obtain ⟨c, r, e, q⟩ := dd_head m h
    unfold wzT Lib.trimLeftS
    have hc : ([48] : List UInt8).contains c = false := by
      simp
      intro e
      exact q (by rw [e]; rfl)
    have hd : (c :: r).dropWhile (([48] : List UInt8).contains ·) = c :: r := by
      rw [List.dropWhile_cons]
      simp only [hc]
      rfl
    rw [e, hd]
    rfl
/-- Digits without the noughts ahead are the digits of their number. -/
theorem dd_push (m d : Nat) (hm : 0 < m) (hd : d < 10) : Lib.decDigits (10 * m + d) = Lib.decDigits m ++ [UInt8.ofNat (48 + d)] := by
  rw [Lib.decDigits, dif_neg (by omega), show (10 * m + d) / 10 = m by omega, show (10 * m + d) % 10 = d by omega]
def valU (l : List UInt8) : Nat := l.foldl (fun n x => 10 * n + (x.toNat - 48)) 0
theorem val_dd : ∀ (m : Nat), valU (Lib.decDigits m) = m := fun m => by
  induction m using Nat.strongRecOn with
  | _ m ih =>
    by_cases h : m < 10
    · rw [Lib.decDigits_one h]
      show 10 * 0 + ((UInt8.ofNat (48 + m)).toNat - 48) = m
      rw [UInt8.toNat_ofNat']
      omega
    · rw [Lib.decDigits, dif_neg h]
      unfold valU
      rw [List.foldl_append]
      show 10 * valU (Lib.decDigits (m / 10)) + ((UInt8.ofNat (48 + m % 10)).toNat - 48) = m
      rw [ih (m / 10) (by omega), UInt8.toNat_ofNat']
      omega
theorem itoa_minus {v : Int} (h : v < 0) : ∃ r, Lib.itoa v = 45 :: r := by
  unfold Lib.itoa
  rw [if_pos h]
  exact ⟨_, rfl⟩
/-- A number of digits that is too great has no number. -/
theorem par_over {m : Nat} (hm : 9007199254740991 < m) : parS (Lib.decDigits m) = ⟨2, 0, false⟩ := by
  unfold parS
  rw [if_neg (not_name (dd_dig m) 78 _ (by decide)), if_neg (not_name (dd_dig m) 73 _ (by decide)), if_neg (not_name (dd_dig m) 45 _ (by decide))]
  split
  · rename_i v hv
    by_cases hi : Lib.itoa v = Lib.decDigits m
    · rw [if_pos hi]
      have hv2 : v = (m : Int) := by
        by_cases hn : v < 0
        · obtain ⟨r, hr⟩ := itoa_minus hn
          rw [hr] at hi
          have := dd_dig m 45 (by rw [← hi]; simp)
          exact absurd this.1 (by decide)
        · obtain ⟨u, rfl⟩ : ∃ u : Nat, v = u := ⟨v.toNat, by omega⟩
          rw [Lib.itoa_nonneg] at hi
          have e := congrArg valU hi
          rw [val_dd, val_dd] at e
          omega
      subst hv2
      unfold ofS
      rw [if_neg (by omega)]
    · rw [if_neg hi]
  · rfl

theorem u8n_back (l : List UInt8) : (u8n l).map Nat.toUInt8 = l := by
  unfold u8n
  rw [List.map_map]
  conv => rhs; rw [← List.map_id l]
  apply List.map_congr_left
  intro a _
  simp
theorem u8n_low {l : List UInt8} (h : ∀ x ∈ l, x.toNat < 128) : low (u8n l) = true := by
  unfold low u8n
  rw [List.all_map, List.all_eq_true]
  intro x hx
  simpa using h x hx
theorem numU_u8 {l : List UInt8} (h : ∀ x ∈ l, x.toNat < 128) : numU (u8n l) = numT (Lib.trimS l blankS) := by
  unfold numU
  rw [u8n_low h, if_pos rfl, u8n_back]
theorem itoa_pos {n : Int} (h : 0 ≤ n) : Lib.itoa n = Lib.decDigits n.toNat := by
  unfold Lib.itoa
  rw [if_neg (by omega)]
  try (congr 1; omega)
theorem itoa_ng {n : Int} (h : n < 0) : Lib.itoa n = 45 :: Lib.decDigits (-n).toNat := by
  unfold Lib.itoa
  rw [if_pos h]
  congr 2
  omega
theorem num_pos {m : Nat} : numU (u8n (Lib.decDigits m)) = ⟨(parS (Lib.decDigits m)).k, (parS (Lib.decDigits m)).n, (parS (Lib.decDigits m)).ok⟩ := by
  rw [numU_u8 (fun x hx => by have := dd_dig m x hx; omega), num_dig (dd_ne m) (dd_dig m), wz_dd]
theorem num_neg {m : Nat} : numU (u8n (45 :: Lib.decDigits m)) = ⟨sgnK true (parS (Lib.decDigits m)).k (parS (Lib.decDigits m)).n, sgnN true (parS (Lib.decDigits m)).k (parS (Lib.decDigits m)).n, (parS (Lib.decDigits m)).ok⟩ := by
  have hd := dd_dig m
  rw [numU_u8 (fun x hx => by
    rcases List.mem_cons.1 hx with rfl | hx
    · decide
    · have := hd x hx; omega)]
  have ht : Lib.trimS (45 :: Lib.decDigits m) blankS = 45 :: Lib.decDigits m := trim_none _ _ (fun x hx => by
    rcases List.mem_cons.1 hx with rfl | hx
    · decide
    · exact (dig_in (hd x hx)).2)
  rw [ht]
  have hp : Lib.hasPrefix (45 :: Lib.decDigits m) [45] = true := by simp [Lib.hasPrefix]
  have hu : unsT (45 :: Lib.decDigits m) = Lib.decDigits m := by
    unfold unsT
    rw [hp, if_pos rfl]
    simp [Lib.trimPrefix, Lib.hasPrefix]
  have hi : Lib.decDigits m ≠ infS := not_name hd 73 _ (by decide)
  unfold numT
  rw [if_neg (by simp), hu, hp, if_neg hi, if_pos ⟨dd_ne m, trim_all _ _ fun x hx => (dig_in (hd x hx)).1⟩, wz_dd]
theorem idxJ_text (us : List Nat) : idxJ (.text us) = idxN (if (numU us).ok then ⟨(numU us).k, (numU us).n, 0⟩ else ⟨0, 0, 3⟩) := rfl
theorem idx_hi {z : Int} (h : 9007199254740991 < z) (h2 : z ≤ 9223372036854775807) : idxJ (.text (u8n (Lib.itoa z))) = ⟨0, 3⟩ := by
  rw [idxJ_text, itoa_pos (by omega), num_pos, par_over (by omega)]
  rfl
theorem idx_lo {z : Int} (h : z < -9007199254740991) (h2 : -9223372036854775808 ≤ z) : idxJ (.text (u8n (Lib.itoa z))) = ⟨0, 3⟩ := by
  rw [idxJ_text, itoa_ng (by omega), num_neg, par_over (by omega)]
  rfl
theorem wholeR_0 {z : Int} (h1 : -9007199254740991 ≤ z) (h2 : z ≤ 9007199254740991) : wholeR 0 z = ⟨0, z⟩ := by
  unfold wholeR
  have hv : IsV 0 z := .inl ⟨rfl, h1, h2⟩
  rw [vk_of hv, vn_of hv]
  unfold wholeS
  rw [if_neg (by decide)]
theorem idxN_0 {z : Int} (h1 : -9007199254740991 ≤ z) (h2 : z ≤ 9007199254740991) : idxN ⟨0, z, 0⟩ = if 0 ≤ z then ⟨z, 0⟩ else ⟨0, 2⟩ := by
  unfold idxN indexO indexR
  simp only [wholeR_0 h1 h2, indexB, indexS, if_true]
  by_cases h : 0 ≤ z
  · simp [h]
  · simp [h]
theorem par_dd' {m : Nat} (hm : m ≤ 9007199254740991) : parS (Lib.decDigits m) = ⟨0, m, true⟩ := by
  rw [par_all (by omega), if_pos hm]
theorem idx_pos {z : Int} (h : 0 ≤ z) (h2 : z ≤ 9007199254740991) : idxJ (.text (u8n (Lib.itoa z))) = ⟨z, 0⟩ := by
  rw [idxJ_text, itoa_pos h, num_pos, par_dd' (by omega)]
  have : ((z.toNat : Nat) : Int) = z := by omega
  rw [this]
  simp only [if_true]
  rw [idxN_0 (by omega) h2, if_pos h]
theorem idx_neg {z : Int} (h : z < 0) (h2 : -9007199254740991 ≤ z) : idxJ (.text (u8n (Lib.itoa z))) = ⟨0, 2⟩ := by
  rw [idxJ_text]
  have hm : (-z).toNat ≤ 9007199254740991 := by omega
  have e : (((-z).toNat : Nat) : Int) = -z := by omega
  have hv : IsV 0 (-z) := .inl ⟨rfl, by omega, by omega⟩
  rw [itoa_ng h, num_neg, par_dd' hm, e]
  simp only [sgnK, sgnN, if_true, negR, vk_of hv, vn_of hv]
  unfold negS
  rw [if_neg (by decide), if_neg (by decide), if_neg (by decide), if_neg (by decide), if_neg (by omega)]
  simp only
  rw [show -(-z) = z by omega, idxN_0 (by omega) (by omega), if_neg (by omega)]
theorem indexR_bd (k n : Int) : 0 ≤ indexR k n ∧ indexR k n ≤ 9007199254740991 := by
  unfold indexR wholeR indexS wholeS
  have hv := isV_v k n
  generalize vk k n = p at *
  generalize vn k n = q at *
  rcases hv with ⟨rfl, h1, h2⟩ | ⟨rfl, rfl⟩ | ⟨rfl, rfl⟩ | ⟨rfl, rfl⟩ | ⟨rfl, rfl⟩
  · split <;> (try split) <;> simp_all <;> omega
  all_goals decide
theorem nofU_s (us : List Nat) : (nofU us).s = 0 ∨ (nofU us).s = 3 := by unfold nofU; split <;> simp
theorem numJ_s (x : JV) : (numJ x).s = 0 ∨ (numJ x).s = 1 ∨ (numJ x).s = 3 := by
  cases x with
  | text us => rcases nofU_s us with h | h <;> simp [numJ, h]
  | _ => simp [numJ]
theorem idxJ_bd {x : JV} {i s : Int} (h : idxJ x = ⟨i, s⟩) : 0 ≤ i ∧ i ≤ 9007199254740991 ∧ (s = 0 ∨ i = 0) ∧ 0 ≤ s ∧ s ≤ 3 := by
  unfold idxJ idxN at h
  have hb := indexR_bd (numJ x).k (numJ x).n
  have hs := numJ_s x
  split at h
  · split at h
    · injection h with h1 h2
      subst h1 h2
      omega
    · injection h with h1 h2
      subst h1 h2
      omega
  · injection h with h1 h2
    subst h1 h2
    omega
end Go.Proofs.YtmlfcmmgoiigkaaGreatDoor
