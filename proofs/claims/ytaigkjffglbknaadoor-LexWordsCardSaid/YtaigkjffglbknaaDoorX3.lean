/- The document's words: parts between blanks, a row of texts. -/
import Derived.Deep.QuietTactic
import Derived.BigQuiet
import Derived.IntWalk
import Derived.Test.YtaigkjffglbknaaDoorQ1
import Derived.Test.YtaigkjffglbknaaDoorB3
namespace Go.Proofs.YtaigkjffglbknaaDoor
open Go.RowKit


/-- The parts between blanks. -/
def spl (cur : List UInt8) : List UInt8 → List (List UInt8)
  | [] => [cur]
  | c :: r => if c = 32 then cur :: spl [] r else spl (cur ++ [c]) r
def strs (l : List (List UInt8)) : List Value := l.map fun x => .string ⟨x.toArray⟩
theorem infoStr : (Tryd.prog.info? 9).map (fun i => (i.zero, i.size, i.bytes)) = some (some (.string ⟨#[]⟩), 1, 16) := by kernel_rfl
theorem one_str (s : ByteArray) : ∀ u ∈ [Value.string s], u.oneCell' = true := fun u h => by
  simp at h
  subst h
  rfl
theorem ext_eq (s : ByteArray) (j i : Nat) : s.extract j i = ⟨((s.data.toList.take i).drop j).toArray⟩ := by
  apply ByteArray.ext
  rw [ByteArray.data_extract]
  apply Array.ext'
  simp [Array.toList_extract, List.drop_take]
theorem strs_snoc (out : List (List UInt8)) (s : ByteArray) (j i : Nat) : strs (out ++ [(s.data.toList.take i).drop j]) = strs out ++ [.string (s.extract j i)] := by
  unfold strs
  rw [List.map_append, ext_eq]
  rfl
theorem own_str {w : World} {B : Nat} {v : Value} {out : List (List UInt8)} {s : ByteArray} {j i : Nat} (h : w.ownsRow B 9 1 v (out.length + 1) (strs out ++ [.string (s.extract j i)])) : w.ownsRow B 9 1 v (out ++ [(s.data.toList.take i).drop j]).length (strs (out ++ [(s.data.toList.take i).drop j])) := by
  rw [strs_snoc, List.length_append]
  exact h
theorem spl_next {s : ByteArray} {out : List (List UInt8)} {i j : Nat} (hi : i < s.data.toList.length) (hj : j ≤ i) (h : spl [] s.data.toList = out ++ spl ((s.data.toList.take i).drop j) (s.data.toList.drop i)) (hc : s.data.toList[i] ≠ 32) : spl [] s.data.toList = out ++ spl ((s.data.toList.take (i + 1)).drop j) (s.data.toList.drop (i + 1)) := by
  rw [h, List.drop_eq_getElem_cons hi]
  congr 1
  show (if s.data.toList[i] = 32 then _ else _) = _
  have hl : (s.data.toList.take i).length = i := by rw [List.length_take]; exact Nat.min_eq_left (Nat.le_of_lt hi)
  rw [if_neg hc, List.take_succ_eq_append_getElem hi, List.drop_append_of_le_length (by rw [hl]; exact hj)]
theorem spl_cut {s : ByteArray} {out : List (List UInt8)} {i j : Nat} (hi : i < s.data.toList.length) (h : spl [] s.data.toList = out ++ spl ((s.data.toList.take i).drop j) (s.data.toList.drop i)) (hc : s.data.toList[i] = 32) : spl [] s.data.toList = (out ++ [(s.data.toList.take i).drop j]) ++ spl ((s.data.toList.take (i + 1)).drop (i + 1)) (s.data.toList.drop (i + 1)) := by
  rw [h, List.drop_eq_getElem_cons hi, List.append_assoc]
  congr 1
  show (if s.data.toList[i] = 32 then _ else _) = _
  have e : (s.data.toList.take (i + 1)).drop (i + 1) = [] := List.drop_eq_nil_of_le (by rw [List.length_take]; exact Nat.min_le_left _ _)
  rw [if_pos hc, e]
  rfl
theorem spl_end {s : ByteArray} {out : List (List UInt8)} {j : Nat} (h : spl [] s.data.toList = out ++ spl ((s.data.toList.take s.data.toList.length).drop j) (s.data.toList.drop s.data.toList.length)) : spl [] s.data.toList = out ++ [(s.data.toList.take s.data.toList.length).drop j] := by
  rw [h, List.drop_length]
  rfl
def SplRel (s : ByteArray) (w : World) (s3 s4 s5 : Value) (wr : World) : Prop :=
  ∃ (i j : Nat) (out : List (List UInt8)), s5 = .int .i64 i ∧ s4 = .int .i64 j ∧ j ≤ s.size + 1 ∧ out.length ≤ i ∧ i ≤ s.size + 1 ∧ wr.ownsRow w.heap.size 9 1 s3 out.length (strs out) ∧ Plus w wr ∧
    ((i ≤ s.size ∧ j ≤ i ∧ spl [] s.data.toList = out ++ spl ((s.data.toList.take i).drop j) (s.data.toList.drop i)) ∨ (i = s.size + 1 ∧ spl [] s.data.toList = out))
set_option maxRecDepth 100000 in
set_option maxHeartbeats 4000000 in
theorem split_c (s : ByteArray) (hs : s.size ≤ 1000) (w : World) : Calls Tryd.prog 27 #[.string s] w fun e w' => ∃ v, e = .returned v ∧ w'.ownsRow w.heap.size 9 1 v (spl [] s.data.toList).length (strs (spl [] s.data.toList)) ∧ Plus w w' := by
  obtain ⟨i0, hi, hz0, hz1, hz2⟩ := info_parts infoStr
  go_enter Tryd.func27, Tryd.ntmps27
  go_wp2_with fail
  go_loopw [3, 4, 5] (SplRel s w) (fun _ _ s5 _ => ((s.size : Int) + 1 - intOf s5).toNat)
  case atStart => exact ⟨0, 0, [], rfl, rfl, by omega, Nat.le_refl _, by omega, World.ownsRow_nil _ _ _ _, Plus.refl _, .inl ⟨by omega, Nat.le_refl _, rfl⟩⟩
  case round =>
    obtain ⟨i, j, out, rfl, rfl, hj, hol, hi1, hown, hp, hrel⟩ := hrel
    obtain ⟨x0, rfl⟩ := hp
    have HO := Lib.hid hown
    clear hown
    rcases hrel with ⟨h1, h2, h3⟩ | ⟨rfl, h3⟩
    · have H3 := Lib.hid h3
      clear h3
      have hjz : (0 : Int) ≤ (j : Int) := by omega
      have hji : (j : Int) ≤ (i : Int) := by omega
      have his : (i : Int) ≤ (s.size : Int) := by omega
      have hsl : s.data.toList.length = s.size := by simp
      by_cases hlt : i < s.size
      · have hne : ((i : Int) == (s.size : Int)) = false := by simp; omega
        have hlt' : i < s.data.toList.length := by omega
        have hget : s.data.toList[i]'hlt' = s[i]'hlt := rfl
        by_cases hc : s[i]'hlt = 32
        · have hb : (((s[i]'hlt).toNat : Int) == 32) = true := by rw [hc]; rfl
          have H4 := Lib.hid (spl_cut hlt' H3.out (by rw [hget]; exact hc))
          clear hc hget hlt' hsl
          go_wp2_with (at_builtin; refine wpList_append_own _ rfl _ _ 50 rfl w.heap.size 9 i0 (.string ⟨#[]⟩) 1 16 Tryd.underlying50 hi hz0 hz1 hz2 rfl (by decide) _ _ _ rfl (own_alloc HO.out _) ⟨w.heap.size + x0.blocks.length, 0, none⟩ 1 1 [.string (s.extract j i)] rfl rfl (news_at' _ _ _ _ (by simp [go_sem])) (one_str _) (by unfold maxLen; omega) (by omega) (by simp [go_sem] <;> omega) ?_; intro v2 w2 hown2 hgr2 _; obtain ⟨z1, rfl⟩ := Plus.of_below (below_own HO.out hgr2 (Plus.below (w := w) (by repeat' (first | exact Plus.refl _ | refine Plus.alloc ?_ _ | refine Plus.plus ?_ _ | refine Plus.drew ?_ | refine Plus.drewN ?_ _))) (by simp [go_sem])); have HO2 := Lib.hid (own_str hown2); clear hown2 hgr2)
          go_roundw
          case rel => exact ⟨i + 1, i + 1, _, by rw [show ((i + 1 : Nat) : Int) = (i : Int) + 1 by omega], by rw [show ((i + 1 : Nat) : Int) = (i : Int) + 1 by omega], by omega, by rw [List.length_append, List.length_singleton]; omega, by omega, HO2.out, (by repeat' (first | exact Plus.refl _ | refine Plus.alloc ?_ _ | refine Plus.plus ?_ _ | refine Plus.drew ?_ | refine Plus.drewN ?_ _)), .inl ⟨hlt, Nat.le_refl _, H4.out⟩⟩
          case measure => simp [intOf]; omega
        · have hb : (((s[i]'hlt).toNat : Int) == 32) = false := by
            simp
            intro e
            exact hc (UInt8.toNat_inj.1 (by show (s[i]'hlt).toNat = 32; omega))
          have H4 := Lib.hid (spl_next hlt' h2 H3.out (by rw [hget]; exact hc))
          clear hc hget hlt' hsl
          go_wp2_with fail
          go_roundw
          case rel => exact ⟨i + 1, j, _, by rw [show ((i + 1 : Nat) : Int) = (i : Int) + 1 by omega], rfl, by omega, by omega, by omega, HO.out, (by repeat' (first | exact Plus.refl _ | refine Plus.alloc ?_ _ | refine Plus.plus ?_ _ | refine Plus.drew ?_ | refine Plus.drewN ?_ _)), .inl ⟨hlt, by omega, H4.out⟩⟩
          case measure => simp [intOf]; omega
      · have hie : i = s.size := by omega
        have heq : ((i : Int) == (s.size : Int)) = true := by simp; omega
        have H4 : Hid (spl [] s.data.toList = out ++ [(s.data.toList.take i).drop j]) := Lib.hid (by
          have q := H3.out
          rw [hie, ← hsl] at q
          rw [hie, ← hsl]
          exact spl_end q)
        have HIE := Lib.hid hie
        clear hie hlt hsl
        go_wp2_with (at_builtin; refine wpList_append_own _ rfl _ _ 50 rfl w.heap.size 9 i0 (.string ⟨#[]⟩) 1 16 Tryd.underlying50 hi hz0 hz1 hz2 rfl (by decide) _ _ _ rfl (own_alloc HO.out _) ⟨w.heap.size + x0.blocks.length, 0, none⟩ 1 1 [.string (s.extract j i)] rfl rfl (news_at' _ _ _ _ (by simp [go_sem])) (one_str _) (by unfold maxLen; omega) (by omega) (by simp [go_sem] <;> omega) ?_; intro v2 w2 hown2 hgr2 _; obtain ⟨z1, rfl⟩ := Plus.of_below (below_own HO.out hgr2 (Plus.below (w := w) (by repeat' (first | exact Plus.refl _ | refine Plus.alloc ?_ _ | refine Plus.plus ?_ _ | refine Plus.drew ?_ | refine Plus.drewN ?_ _))) (by simp [go_sem])); have HO2 := Lib.hid (own_str hown2); clear hown2 hgr2)
        go_roundw
        case rel => exact ⟨i + 1, i + 1, _, by rw [show ((i + 1 : Nat) : Int) = (i : Int) + 1 by omega], by rw [show ((i + 1 : Nat) : Int) = (i : Int) + 1 by omega], by have := HIE.out; omega, by rw [List.length_append, List.length_singleton]; omega, by have := HIE.out; omega, HO2.out, (by repeat' (first | exact Plus.refl _ | refine Plus.alloc ?_ _ | refine Plus.plus ?_ _ | refine Plus.drew ?_ | refine Plus.drewN ?_ _)), .inr ⟨by have := HIE.out; omega, H4.out⟩⟩
        case measure => simp [intOf]; omega
    · go_wp2_with fail
      go_ret
      exact ⟨_, rfl, by rw [h3]; exact HO.out, (by repeat' (first | exact Plus.refl _ | refine Plus.alloc ?_ _ | refine Plus.plus ?_ _ | refine Plus.drew ?_ | refine Plus.drewN ?_ _))⟩
end Go.Proofs.YtaigkjffglbknaaDoor
