/- Contract: Number, of any units. -/
import Derived.Test.YtdckonlipinblaaGreatDoorR1
namespace Go.Proofs.YtdckonlipinblaaGreatDoor
open Go.RowKit


/-- The number of a text without its outer blanks. -/
def numT (T : List UInt8) : Ans :=
  if T = [] then ⟨0, 0, true⟩
  else if unsT T = infS then ⟨if Lib.hasPrefix T [45] then 4 else 3, 0, true⟩
  else if unsT T ≠ [] ∧ Lib.trimS (unsT T) digS = [] then ⟨sgnK (Lib.hasPrefix T [45]) (parS (wzT (unsT T))).k (parS (wzT (unsT T))).n, sgnN (Lib.hasPrefix T [45]) (parS (wzT (unsT T))).k (parS (wzT (unsT T))).n, (parS (wzT (unsT T))).ok⟩
  else ⟨2, 0, !(Lib.containsAny T digS && decide (Lib.trimS T numS = []))⟩
/-- The number of units. -/
def numU (xs : List Nat) : Ans := if low xs then numT (Lib.trimS ((xs.map Nat.toUInt8)) blankS) else ⟨2, 0, true⟩
theorem trimL_sub (l c : List UInt8) : (Lib.trimLeftS l c).Sublist l := List.dropWhile_sublist _
theorem trimR_sub (l c : List UInt8) : (Lib.trimRightS l c).Sublist l := by
  unfold Lib.trimRightS
  have := (List.dropWhile_sublist (fun x => c.contains x) (l := l.reverse)).reverse
  rw [List.reverse_reverse] at this
  exact this
theorem trim_sub (l c : List UInt8) : (Lib.trimS l c).Sublist l := (trimL_sub _ _).trans (trimR_sub _ _)
theorem uns_sub (l : List UInt8) : (unsT l).Sublist l := by
  have h : ∀ p, (Lib.trimPrefix l p).Sublist l := fun p => by
    unfold Lib.trimPrefix
    split
    · exact List.drop_sublist _ _
    · exact List.Sublist.refl _
  unfold unsT
  split
  · exact h _
  · exact h _
theorem wz_len (l : List UInt8) : (wzT l).length ≤ l.length + 1 := by
  unfold wzT
  have := (trimL_sub l [48]).length_le
  split
  · simp
  · omega
theorem low_asc {xs : List Nat} (h : low xs = true) : asc (xs.map Nat.toUInt8) := fun x hx => by
  obtain ⟨y, hy, rfl⟩ := List.mem_map.1 hx
  unfold low at h
  have h2 := List.all_eq_true.1 h y hy
  simp at h2
  rw [toNat_u8 (by omega)]
  exact h2
theorem number_c (A : Option Addr) (xs : List Nat) (n c : Nat) (w : World) (hL : Lai w) (h : Ar .u16 65536 w A xs n c) (hs : n ≤ 1000000) :
    Calls Tryz.prog 7 #[.slice A n c] w fun e w' => e = .returned (.tuple #[.agg #[.int .i64 (numU xs).k, .int .i64 (numU xs).n], .bool (numU xs).ok]) ∧ Plus w w' := by
  unfold numU
  cases hl : low xs
  · exact number_low A xs n c w (Lib.hid h) (by omega) (Lib.hid hl)
  · have hn := h.len
    have hd : (plS xs).data.toList = xs.map Nat.toUInt8 := by unfold plS; rw [if_pos hl]; rfl
    have hz : (plS xs).size ≤ 1048576 := by unfold plS; rw [if_pos hl, byts_size]; omega
    have ht := trim_sub (xs.map Nat.toUInt8) blankS
    have htl := ht.length_le
    rw [List.length_map] at htl
    have hta : asc (Lib.trimS (xs.map Nat.toUInt8) blankS) := fun x hx => low_asc hl x (ht.subset hx)
    have hT : Lib.trimS (plS xs).data.toList (⟨#[32, 9, 10, 13]⟩ : ByteArray).data.toList = Lib.trimS (xs.map Nat.toUInt8) blankS := by rw [hd]; rfl
    rw [if_pos rfl]
    generalize Lib.trimS (xs.map Nat.toUInt8) blankS = T at *
    have hu := (uns_sub T).length_le
    have hw := wz_len (unsT T)
    unfold numT
    by_cases h0 : T = []
    · rw [if_pos h0]
      exact number_nil A xs n c w (Lib.hid h) (by omega) (Lib.hid hl) (Lib.hid (hT.trans h0)) hz
    · rw [if_neg h0]
      by_cases h1 : unsT T = infS
      · rw [if_pos h1]
        exact number_inf A xs n c w (Lib.hid h) (by omega) (Lib.hid hl) T (Lib.hid hT) hz (Lib.hid h0) _ (Lib.hid rfl) _ (Lib.hid rfl) (Lib.hid h1) _ (Lib.hid rfl)
      · rw [if_neg h1]
        by_cases h2 : unsT T ≠ [] ∧ Lib.trimS (unsT T) digS = []
        · rw [if_pos h2]
          exact number_dig A xs n c w (Lib.hid hL) (Lib.hid h) (by omega) (Lib.hid hl) T (Lib.hid hT) hz (Lib.hid h0) _ (Lib.hid rfl) _ (Lib.hid rfl) (Lib.hid h1) (Lib.hid h2.1) (by omega) (Lib.hid (by simpa using h2.2))
            _ _ _ (Lib.hid rfl) (by omega) _ _ (Lib.hid rfl) (Lib.hid rfl)
        · rw [if_neg h2]
          refine number_none A xs n c w (Lib.hid h) (by omega) (Lib.hid hl) T (Lib.hid hT) hz (Lib.hid h0) _ (Lib.hid rfl) _ (Lib.hid rfl) (Lib.hid h1) (by omega) (by omega) (Lib.hid hta) (Lib.hid ?_) _ _ _ (Lib.hid rfl) (Lib.hid rfl) (Lib.hid rfl)
          by_cases h3 : unsT T = []
          · exact .inl h3
          · right
            refine ⟨h3, ?_⟩
            simp
            intro q
            exact h2 ⟨h3, q⟩
theorem refNum_c (k n l m : Int) (w : World) : Calls Tryz.prog 11 #[.agg #[.int .i64 k, .int .i64 n], .agg #[.int .i64 l, .int .i64 m]] w fun e w' => e = .returned (.bool (decide (k = l ∧ n = m))) ∧ Plus w w' := by
  by_cases h : k = l
  · by_cases h2 : n = m
    · subst h h2
      go_enter Tryz.func11, Tryz.ntmps11
      go_wp2
      go_ret
      exact ⟨by simp, (by repeat' (first | exact Plus.refl _ | refine Plus.alloc ?_ _ | refine Plus.plus ?_ _ | refine Plus.drew ?_ | refine Plus.drewN ?_ _))⟩
    · have b1 : (n == m) = false := by simpa using h2
      subst h
      have HN : Hid (decide (k = k ∧ n = m) = false) := Lib.hid (by simp [h2])
      rw [HN.out]
      go_enter Tryz.func11, Tryz.ntmps11
      go_wp2
      go_ret
      exact ⟨by first | rfl | (rw [HN.out]; rfl), (by repeat' (first | exact Plus.refl _ | refine Plus.alloc ?_ _ | refine Plus.plus ?_ _ | refine Plus.drew ?_ | refine Plus.drewN ?_ _))⟩
  · have b1 : (k == l) = false := by simpa using h
    have HN : Hid (decide (k = l ∧ n = m) = false) := Lib.hid (by simp [h])
    go_enter Tryz.func11, Tryz.ntmps11
    go_wp2
    go_ret
    exact ⟨by first | rfl | (rw [HN.out]; rfl), (by repeat' (first | exact Plus.refl _ | refine Plus.alloc ?_ _ | refine Plus.plus ?_ _ | refine Plus.drew ?_ | refine Plus.drewN ?_ _))⟩
end Go.Proofs.YtdckonlipinblaaGreatDoor
