/- The document's words, signs and names. -/
import Derived.Deep.QuietTactic
import Derived.BigQuiet
import Derived.IntWalk
import Derived.Test.YtaigkjffglbknaaDoorX3
import Derived.Test.YtaigkjffglbknaaDoorL7w
namespace Go.Proofs.YtaigkjffglbknaaDoor
open Go.RowKit


/-- The slice at A reads as the texts l. -/
def RsA (w : World) (A : Option Addr) (l : List (List UInt8)) : Prop := 0 < l.length → ∃ g, A = some ⟨g, 0, none⟩ ∧ g < w.heap.size ∧ ∀ k, k < l.length → w.cell? ⟨g, k, none⟩ = some (.string ⟨(l.getD k []).toArray⟩)
theorem RsA.plus {w w' : World} {A : Option Addr} {l : List (List UInt8)} (h : RsA w A l) (hp : Plus w w') : RsA w' A l := fun h0 => by
  obtain ⟨g, e, hg, hc⟩ := h h0
  exact ⟨g, e, Nat.lt_of_lt_of_le hg hp.below.size, fun k hk => (World.cell?_of_block (w := w) (hp.below.block g hg)).trans (hc k hk)⟩
theorem str_read {w : World} {B : Nat} {v : Value} {l : List (List UInt8)} (h : w.ownsRow B 9 1 v l.length (strs l)) : ∃ A c, v = .slice A l.length c ∧ l.length ≤ c ∧ c ≤ 9223372036854775807 ∧ RsA w A l := by
  rcases h.2 with ⟨rfl, h0⟩ | ⟨g, cap, cur, rfl, hb, hg, hl, hm, hs, ht⟩
  · have : l = [] := List.eq_nil_of_length_eq_zero h0
    subst this
    exact ⟨none, 0, rfl, Nat.le_refl _, by omega, fun h => absurd h (by simp)⟩
  · refine ⟨some ⟨g, 0, none⟩, cap, rfl, hl, by unfold maxLen at hm; exact hm, fun h0 => ⟨g, rfl, (Array.getElem?_eq_some_iff.1 hg).1, fun k hk => ?_⟩⟩
    have e1 : (strs l)[k]? = some (.string ⟨(l.getD k []).toArray⟩) := by
      unfold strs
      rw [List.getElem?_map, List.getElem?_eq_getElem hk, List.getD_eq_getElem?_getD, List.getElem?_eq_getElem hk]
      rfl
    rw [cell_of_row w g k cur 9 (0, 0) hg, ← e1, ← ht, List.getElem?_take, if_pos (by omega)]
    simp
theorem has_no {l : List (List UInt8)} {x : List UInt8} {k : Nat} (hk : k < l.length) (h : (l.take k).contains x = false) (hx : l.getD k [] ≠ x) : (l.take (k + 1)).contains x = false := by
  have e : l.getD k [] = l[k] := by rw [List.getD_eq_getElem?_getD, List.getElem?_eq_getElem hk]; rfl
  rw [e] at hx
  rw [List.take_succ_eq_append_getElem hk]
  simp only [List.contains_eq_mem, List.mem_append, List.mem_singleton, decide_eq_false_iff_not, not_or] at h ⊢
  exact ⟨h, fun q => hx q.symm⟩
theorem has_yes {l : List (List UInt8)} {x : List UInt8} {k : Nat} (hk : k < l.length) (hx : l.getD k [] = x) : l.contains x = true := by
  have e : l.getD k [] = l[k] := by rw [List.getD_eq_getElem?_getD, List.getElem?_eq_getElem hk]; rfl
  rw [e] at hx
  simp only [List.contains_eq_mem, decide_eq_true_eq]
  rw [← hx]
  exact List.getElem_mem hk
set_option maxRecDepth 100000 in
set_option maxHeartbeats 4000000 in
theorem has_c (A : Option Addr) (l : List (List UInt8)) (n c : Nat) (s : ByteArray) (b : Bool) (hb : Hid (l.contains s.data.toList = b)) (hn : Hid (n = l.length)) (w : World) (h : Hid (RsA w A l)) (hl : n ≤ 1000) :
    Calls Tryd.prog 26 #[.slice A n c, .string s] w fun e w' => e = .returned (.bool b) ∧ Plus w w' := by
  go_enter Tryd.func26, Tryd.ntmps26
  go_wp2_with fail
  go_loop [5] (fun s5 => ∃ k : Nat, k ≤ n ∧ s5 = .int .i64 k ∧ Hid ((l.take k).contains s.data.toList = false)) (fun s5 => ((n : Int) - intOf s5).toNat)
  case atStart => exact ⟨0, by omega, rfl, Lib.hid rfl⟩
  case round =>
    obtain ⟨k, hk, rfl, hA⟩ := hrel
    by_cases hlt : k < n
    · have hlt' : k < l.length := by have := hn.out; omega
      obtain ⟨g, rfl, hg, hc⟩ := h.out (by omega)
      have hcell := hc k hlt'
      obtain ⟨T, hT⟩ : ∃ T : ByteArray, (⟨(l.getD k []).toArray⟩ : ByteArray) = T := ⟨_, rfl⟩
      have HTT := Lib.hid hT
      rw [hT] at hcell
      clear hT hc
      have I0 : Old g w := ⟨hg⟩
      by_cases hx : l.getD k [] = s.data.toList
      · have q : (T.toList == s.toList) = true := by rw [← HTT.out, data_eq2]; exact decide_eq_true hx
        have HB : Hid (b = true) := Lib.hid (hb.out.symm.trans (has_yes hlt' hx))
        clear hx
        go_wp2_with fail
        go_ret
        exact ⟨by rw [HB.out]; rfl, Plus.refl _⟩
      · have q : (T.toList == s.toList) = false := by rw [← HTT.out, data_eq2]; exact decide_eq_false hx
        have HN := Lib.hid (has_no hlt' hA.out hx)
        clear hx
        go_wp2_with fail
        go_round
        case rel => exact ⟨k + 1, hlt, by rw [show ((k + 1 : Nat) : Int) = (k : Int) + 1 by omega], HN⟩
        case measure => simp [intOf]; omega
    · have HB : Hid (b = false) := Lib.hid (by
        have q := hA.out
        have : k = l.length := by have := hn.out; omega
        rw [this, List.take_length] at q
        exact hb.out.symm.trans q)
      go_wp2_with fail
      go_ret
      exact ⟨by rw [HB.out]; rfl, Plus.refl _⟩
theorem split_l (s : ByteArray) (hs : s.size ≤ 1000) (l : List (List UInt8)) (hl : spl [] s.data.toList = l) (w : World) : Calls Tryd.prog 27 #[.string s] w fun e w' => ∃ A c, e = .returned (.slice A l.length c) ∧ Hid (RsA w' A l) ∧ Plus w w' := by
  subst hl
  refine (split_c s hs w).mono fun e w' ⟨v, he, ho, hp⟩ => ?_
  obtain ⟨A, c, rfl, _, _, h⟩ := str_read ho
  exact ⟨A, c, he, Lib.hid h, hp⟩
set_option maxRecDepth 100000 in
set_option maxHeartbeats 4000000 in
theorem rword_1 (s : ByteArray) (h1 : Hid (words1.contains s.data.toList = true))  (w : World) : Calls Tryd.prog 13 #[.string s] w fun e w' => e = .returned (.int .i64 1) ∧ Plus w w' := by
  go_enter Tryd.func13, Tryd.ntmps13
  go_wp2_with fail
  with_reducible refine (split_l _ ?z1 words1 ?h1 _).mono ?_
  case z1 => exact of_decide_eq_true (by kernel_rfl)
  case h1 => kernel_rfl
  rintro e w1 ⟨A1, c1, rfl, hr1, ⟨x1, rfl⟩⟩
  go_wp2_with (first | (go_at_call 26; (with_reducible refine (has_c A1 words1 _ c1 s _ h1 (Lib.hid rfl) _ hr1 (by decide)).mono ?_); rintro e w1 ⟨rfl, ⟨y1, rfl⟩⟩))
  go_ret
  exact ⟨rfl, (by repeat' (first | exact Plus.refl _ | refine Plus.alloc ?_ _ | refine Plus.plus ?_ _ | refine Plus.drew ?_ | refine Plus.drewN ?_ _))⟩
set_option maxRecDepth 100000 in
set_option maxHeartbeats 4000000 in
theorem rword_2 (s : ByteArray) (h1 : Hid (words1.contains s.data.toList = false)) (h2 : Hid (words2.contains s.data.toList = true)) (w : World) : Calls Tryd.prog 13 #[.string s] w fun e w' => e = .returned (.int .i64 2) ∧ Plus w w' := by
  go_enter Tryd.func13, Tryd.ntmps13
  go_wp2_with fail
  with_reducible refine (split_l _ ?z1 words1 ?h1 _).mono ?_
  case z1 => exact of_decide_eq_true (by kernel_rfl)
  case h1 => kernel_rfl
  rintro e w1 ⟨A1, c1, rfl, hr1, ⟨x1, rfl⟩⟩
  go_wp2_with (first | (go_at_call 26; (with_reducible refine (has_c A1 words1 _ c1 s _ h1 (Lib.hid rfl) _ hr1 (by decide)).mono ?_); rintro e w1 ⟨rfl, ⟨y1, rfl⟩⟩))
  with_reducible refine (split_l _ ?z2 words2 ?h2 _).mono ?_
  case z2 => exact of_decide_eq_true (by kernel_rfl)
  case h2 => kernel_rfl
  rintro e w1 ⟨A2, c2, rfl, hr2, ⟨x2, rfl⟩⟩
  go_wp2_with (first | (go_at_call 26; (with_reducible refine (has_c A2 words2 _ c2 s _ h2 (Lib.hid rfl) _ hr2 (by decide)).mono ?_); rintro e w1 ⟨rfl, ⟨y2, rfl⟩⟩))
  go_ret
  exact ⟨rfl, (by repeat' (first | exact Plus.refl _ | refine Plus.alloc ?_ _ | refine Plus.plus ?_ _ | refine Plus.drew ?_ | refine Plus.drewN ?_ _))⟩
set_option maxRecDepth 100000 in
set_option maxHeartbeats 4000000 in
theorem rword_0 (s : ByteArray) (h1 : Hid (words1.contains s.data.toList = false)) (h2 : Hid (words2.contains s.data.toList = false)) (w : World) : Calls Tryd.prog 13 #[.string s] w fun e w' => e = .returned (.int .i64 0) ∧ Plus w w' := by
  go_enter Tryd.func13, Tryd.ntmps13
  go_wp2_with fail
  with_reducible refine (split_l _ ?z1 words1 ?h1 _).mono ?_
  case z1 => exact of_decide_eq_true (by kernel_rfl)
  case h1 => kernel_rfl
  rintro e w1 ⟨A1, c1, rfl, hr1, ⟨x1, rfl⟩⟩
  go_wp2_with (first | (go_at_call 26; (with_reducible refine (has_c A1 words1 _ c1 s _ h1 (Lib.hid rfl) _ hr1 (by decide)).mono ?_); rintro e w1 ⟨rfl, ⟨y1, rfl⟩⟩))
  with_reducible refine (split_l _ ?z2 words2 ?h2 _).mono ?_
  case z2 => exact of_decide_eq_true (by kernel_rfl)
  case h2 => kernel_rfl
  rintro e w1 ⟨A2, c2, rfl, hr2, ⟨x2, rfl⟩⟩
  go_wp2_with (first | (go_at_call 26; (with_reducible refine (has_c A2 words2 _ c2 s _ h2 (Lib.hid rfl) _ hr2 (by decide)).mono ?_); rintro e w1 ⟨rfl, ⟨y2, rfl⟩⟩))
  go_ret
  exact ⟨rfl, (by repeat' (first | exact Plus.refl _ | refine Plus.alloc ?_ _ | refine Plus.plus ?_ _ | refine Plus.drew ?_ | refine Plus.drewN ?_ _))⟩
theorem rword_k {s : ByteArray} {z : Int} (h : Hid ((wordN s.data.toList : Int) = z)) (w : World) : Calls Tryd.prog 13 #[.string s] w fun e w' => e = .returned (.int .i64 z) ∧ Plus w w' := by
  have hz := h.out
  unfold wordN at hz
  by_cases q1 : words1.contains s.data.toList = true
  · rw [if_pos q1] at hz
    subst hz
    exact rword_1 s (Lib.hid q1) w
  · rw [if_neg q1] at hz
    by_cases q2 : words2.contains s.data.toList = true
    · rw [if_pos q2] at hz
      subst hz
      exact rword_2 s (Lib.hid (by simpa using q1)) (Lib.hid q2) w
    · rw [if_neg q2] at hz
      subst hz
      exact rword_0 s (Lib.hid (by simpa using q1)) (Lib.hid (by simpa using q2)) w
set_option maxRecDepth 100000 in
set_option maxHeartbeats 4000000 in
theorem rsign_1 (s : ByteArray) (h1 : Hid (signs1.contains s.data.toList = true))  (w : World) : Calls Tryd.prog 15 #[.string s] w fun e w' => e = .returned (.int .i64 1) ∧ Plus w w' := by
  go_enter Tryd.func15, Tryd.ntmps15
  go_wp2_with fail
  with_reducible refine (split_l _ ?z1 signs1 ?h1 _).mono ?_
  case z1 => exact of_decide_eq_true (by kernel_rfl)
  case h1 => kernel_rfl
  rintro e w1 ⟨A1, c1, rfl, hr1, ⟨x1, rfl⟩⟩
  go_wp2_with (first | (go_at_call 26; (with_reducible refine (has_c A1 signs1 _ c1 s _ h1 (Lib.hid rfl) _ hr1 (by decide)).mono ?_); rintro e w1 ⟨rfl, ⟨y1, rfl⟩⟩))
  go_ret
  exact ⟨rfl, (by repeat' (first | exact Plus.refl _ | refine Plus.alloc ?_ _ | refine Plus.plus ?_ _ | refine Plus.drew ?_ | refine Plus.drewN ?_ _))⟩
set_option maxRecDepth 100000 in
set_option maxHeartbeats 4000000 in
theorem rsign_2 (s : ByteArray) (h1 : Hid (signs1.contains s.data.toList = false)) (h2 : Hid (signs2.contains s.data.toList = true)) (w : World) : Calls Tryd.prog 15 #[.string s] w fun e w' => e = .returned (.int .i64 2) ∧ Plus w w' := by
  go_enter Tryd.func15, Tryd.ntmps15
  go_wp2_with fail
  with_reducible refine (split_l _ ?z1 signs1 ?h1 _).mono ?_
  case z1 => exact of_decide_eq_true (by kernel_rfl)
  case h1 => kernel_rfl
  rintro e w1 ⟨A1, c1, rfl, hr1, ⟨x1, rfl⟩⟩
  go_wp2_with (first | (go_at_call 26; (with_reducible refine (has_c A1 signs1 _ c1 s _ h1 (Lib.hid rfl) _ hr1 (by decide)).mono ?_); rintro e w1 ⟨rfl, ⟨y1, rfl⟩⟩))
  with_reducible refine (split_l _ ?z2 signs2 ?h2 _).mono ?_
  case z2 => exact of_decide_eq_true (by kernel_rfl)
  case h2 => kernel_rfl
  rintro e w1 ⟨A2, c2, rfl, hr2, ⟨x2, rfl⟩⟩
  go_wp2_with (first | (go_at_call 26; (with_reducible refine (has_c A2 signs2 _ c2 s _ h2 (Lib.hid rfl) _ hr2 (by decide)).mono ?_); rintro e w1 ⟨rfl, ⟨y2, rfl⟩⟩))
  go_ret
  exact ⟨rfl, (by repeat' (first | exact Plus.refl _ | refine Plus.alloc ?_ _ | refine Plus.plus ?_ _ | refine Plus.drew ?_ | refine Plus.drewN ?_ _))⟩
set_option maxRecDepth 100000 in
set_option maxHeartbeats 4000000 in
theorem rsign_0 (s : ByteArray) (h1 : Hid (signs1.contains s.data.toList = false)) (h2 : Hid (signs2.contains s.data.toList = false)) (w : World) : Calls Tryd.prog 15 #[.string s] w fun e w' => e = .returned (.int .i64 0) ∧ Plus w w' := by
  go_enter Tryd.func15, Tryd.ntmps15
  go_wp2_with fail
  with_reducible refine (split_l _ ?z1 signs1 ?h1 _).mono ?_
  case z1 => exact of_decide_eq_true (by kernel_rfl)
  case h1 => kernel_rfl
  rintro e w1 ⟨A1, c1, rfl, hr1, ⟨x1, rfl⟩⟩
  go_wp2_with (first | (go_at_call 26; (with_reducible refine (has_c A1 signs1 _ c1 s _ h1 (Lib.hid rfl) _ hr1 (by decide)).mono ?_); rintro e w1 ⟨rfl, ⟨y1, rfl⟩⟩))
  with_reducible refine (split_l _ ?z2 signs2 ?h2 _).mono ?_
  case z2 => exact of_decide_eq_true (by kernel_rfl)
  case h2 => kernel_rfl
  rintro e w1 ⟨A2, c2, rfl, hr2, ⟨x2, rfl⟩⟩
  go_wp2_with (first | (go_at_call 26; (with_reducible refine (has_c A2 signs2 _ c2 s _ h2 (Lib.hid rfl) _ hr2 (by decide)).mono ?_); rintro e w1 ⟨rfl, ⟨y2, rfl⟩⟩))
  go_ret
  exact ⟨rfl, (by repeat' (first | exact Plus.refl _ | refine Plus.alloc ?_ _ | refine Plus.plus ?_ _ | refine Plus.drew ?_ | refine Plus.drewN ?_ _))⟩
theorem rsign_k {s : ByteArray} {z : Int} (h : Hid ((signN s.data.toList : Int) = z)) (w : World) : Calls Tryd.prog 15 #[.string s] w fun e w' => e = .returned (.int .i64 z) ∧ Plus w w' := by
  have hz := h.out
  unfold signN at hz
  by_cases q1 : signs1.contains s.data.toList = true
  · rw [if_pos q1] at hz
    subst hz
    exact rsign_1 s (Lib.hid q1) w
  · rw [if_neg q1] at hz
    by_cases q2 : signs2.contains s.data.toList = true
    · rw [if_pos q2] at hz
      subst hz
      exact rsign_2 s (Lib.hid (by simpa using q1)) (Lib.hid q2) w
    · rw [if_neg q2] at hz
      subst hz
      exact rsign_0 s (Lib.hid (by simpa using q1)) (Lib.hid (by simpa using q2)) w
end Go.Proofs.YtaigkjffglbknaaDoor
