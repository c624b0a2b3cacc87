/- Names, words and signs: one token. -/
import Derived.Test.YtaigkjffglbknaaDoorB3
import Derived.Test.YtaigkjffglbknaaDoorFR
namespace Go.Proofs.YtaigkjffglbknaaDoor
open Go.RowKit


def nameB (s : ByteArray) : Bool := !s.data.toList.isEmpty && !isDig (uAt (nats s) 0) && (nats s).all isPrt && wordN s.data.toList == 0
theorem nats_uAt (s : ByteArray) (k : Nat) (h : k < s.size) : uAt (nats s) k = s[k].toNat := nats_get s k h
theorem all_stop {p : Nat → Bool} {xs : List Nat} {k : Nat} (hk : k < xs.length) (h : p (xs.getD k 0) = false) : xs.all p = false := by
  rw [List.all_eq_false]
  exact ⟨_, getD_mem hk, by rw [h]; decide⟩
theorem all_step {p : Nat → Bool} {xs : List Nat} {k : Nat} (hk : k < xs.length) (h0 : (xs.take k).all p = true) (h : p (xs.getD k 0) = true) : (xs.take (k + 1)).all p = true := by
  have e : xs.getD k 0 = xs[k] := by rw [List.getD_eq_getElem?_getD, List.getElem?_eq_getElem hk]; rfl
  rw [e] at h
  rw [List.take_succ_eq_append_getElem hk, List.all_append, h0]
  simp [h]
set_option maxRecDepth 100000 in
set_option maxHeartbeats 4000000 in
theorem name_c (s : ByteArray) (hs : s.size ≤ 1048576) (w : World) : Calls Tryd.prog 16 #[.string s] w fun e w' => e = .returned (.bool (nameB s)) ∧ w = w' := by
  have etl := toList_data s
  by_cases h0 : s.toList = []
  · have HN : Hid (nameB s = false) := Lib.hid (by unfold nameB; rw [← etl, h0]; rfl)
    clear etl
    go_enter Tryd.func16, Tryd.ntmps16
    go_wp2
    go_ret
    exact ⟨by rw [HN.out]; rfl, rfl⟩
  · have hz : 0 < s.size := by
      rcases Nat.eq_zero_or_pos s.size with h | h
      · exact absurd (by rw [etl]; exact List.eq_nil_of_length_eq_zero (by simpa using h)) h0
      · exact h
    have he : s.toList.isEmpty = false := by
      cases hl : s.toList with
      | nil => exact absurd hl h0
      | cons _ _ => rfl
    have HE : Hid (s.data.toList.isEmpty = false) := Lib.hid (by rw [← etl]; exact he)
    have hb := s[0].toNat_lt
    have hcv : IntKind.u16.wrap (s[0].toNat : Int) = (s[0].toNat : Int) := by rw [IntKind.wrap_u16]; omega
    obtain ⟨d, hd⟩ : ∃ d, isDig s[0].toNat = d := ⟨_, rfl⟩
    have HD := Lib.hid hd
    have HD0 : Hid (isDig (uAt (nats s) 0) = d) := Lib.hid (by rw [nats_uAt s 0 hz]; exact hd)
    clear etl hd
    cases d
    · go_enter Tryd.func16, Tryd.ntmps16
      go_wp2_with (go_at_call 28; (with_reducible refine (isDig_c s[0].toNat (by omega) _).mono ?_); rintro e w1 ⟨rfl, rfl⟩; rw [HD.out])
      go_loop [14] (fun s14 => ∃ k : Nat, k ≤ s.size ∧ s14 = .int .i64 k ∧ Hid (((nats s).take k).all isPrt = true)) (fun s14 => ((s.size : Int) - intOf s14).toNat)
      case atStart => exact ⟨0, by omega, rfl, Lib.hid rfl⟩
      case round =>
        obtain ⟨k, hk, rfl, hA⟩ := hrel
        by_cases hlt : k < s.size
        · have hkn : k < (nats s).length := by rw [nats_len]; exact hlt
          have hbk := s[k].toNat_lt
          have hck : IntKind.u16.wrap (s[k].toNat : Int) = (s[k].toNat : Int) := by rw [IntKind.wrap_u16]; omega
          obtain ⟨b, hb2⟩ : ∃ b, isPrt s[k].toNat = b := ⟨_, rfl⟩
          have HB := Lib.hid hb2
          have hg := nats_get s k hlt
          rw [← hg] at hb2
          cases b
          · have HN : Hid (nameB s = false) := Lib.hid (by unfold nameB; rw [all_stop hkn hb2]; simp)
            clear hb2 hg hkn
            go_wp2_with (go_at_call 29; (with_reducible refine (isPrt_c s[k].toNat (by omega) _).mono ?_); rintro e w1 ⟨rfl, rfl⟩; rw [HB.out])
            go_ret
            exact ⟨by rw [HN.out]; rfl, rfl⟩
          · have HS : Hid (((nats s).take (k + 1)).all isPrt = true) := Lib.hid (all_step hkn hA.out hb2)
            clear hb2 hg hkn
            go_wp2_with (go_at_call 29; (with_reducible refine (isPrt_c s[k].toNat (by omega) _).mono ?_); rintro e w1 ⟨rfl, rfl⟩; rw [HB.out])
            go_round
            case rel => exact ⟨k + 1, hlt, by rw [show ((k + 1 : Nat) : Int) = (k : Int) + 1 by omega], HS⟩
            case measure => simp [intOf]; omega
        · obtain rfl : k = s.size := by omega
          obtain ⟨v, hv⟩ : ∃ v, wordN s.data.toList = v := ⟨_, rfl⟩
          have HV := Lib.hid hv
          have HN : Hid (nameB s = (v == 0)) := Lib.hid (by
            have q := hA.out
            rw [← nats_len s, List.take_length] at q
            unfold nameB
            rw [HE.out, HD0.out, q, hv]
            simp)
          have bz : ((v : Int) == 0) = (v == 0) := by rw [Bool.eq_iff_iff]; simp
          have HBZ := Lib.hid bz
          clear hv bz
          go_wp2_with (go_at_call 12; (with_reducible refine (word_c s _).mono ?_); rintro e w1 ⟨rfl, rfl⟩; rw [HV.out])
          go_ret
          exact ⟨by rw [HN.out, ← HBZ.out]; rfl, rfl⟩
    · have HN : Hid (nameB s = false) := Lib.hid (by unfold nameB; rw [HD0.out]; simp)
      go_enter Tryd.func16, Tryd.ntmps16
      go_wp2_with (go_at_call 28; (with_reducible refine (isDig_c s[0].toNat (by omega) _).mono ?_); rintro e w1 ⟨rfl, rfl⟩; rw [HD.out])
      go_ret
      exact ⟨by rw [HN.out]; rfl, rfl⟩

theorem name_k {s : ByteArray} {b : Bool} (hs : s.size ≤ 1048576) (h : Hid (nameB s = b)) (w : World) : Calls Tryd.prog 16 #[.string s] w fun e w' => e = .returned (.bool b) ∧ Plus w w' :=
  (name_c s hs w).mono fun e w' ⟨h1, h2⟩ => ⟨by rw [h1, h.out], by rw [← h2]; exact Plus.refl _⟩
theorem word_k {s : ByteArray} {z : Int} (h : Hid ((wordN s.data.toList : Int) = z)) (w : World) : Calls Tryd.prog 12 #[.string s] w fun e w' => e = .returned (.int .i64 z) ∧ Plus w w' :=
  (word_c s w).mono fun e w' ⟨h1, h2⟩ => ⟨by rw [h1, h.out], by rw [← h2]; exact Plus.refl _⟩
theorem sign_k {s : ByteArray} {z : Int} (h : Hid ((signN s.data.toList : Int) = z)) (w : World) : Calls Tryd.prog 14 #[.string s] w fun e w' => e = .returned (.int .i64 z) ∧ Plus w w' :=
  (sign_c s w).mono fun e w' ⟨h1, h2⟩ => ⟨by rw [h1, h.out], by rw [← h2]; exact Plus.refl _⟩
def oneT (k : Int) (t : ByteArray) : List Tk := [{ tk0 with k := k, t := t }, { tk0 with a := t.size }]
theorem byts_nats (s : ByteArray) : byts (nats s) = s := by
  unfold byts nats
  rw [List.map_map]
  have e : (Nat.toUInt8 ∘ UInt8.toNat) = id := by funext x; simp
  rw [e, List.map_id]
theorem let_ne {c : Nat} (h : isLet c = true) : isBlk c = false ∧ isEnd c = false ∧ c ≠ 47 := by
  simp [isLet] at h
  refine ⟨?_, ?_, by omega⟩
  · simp [isBlk]; omega
  · simp [isEnd]; omega
theorem prt_low {xs : List Nat} (h : xs.all isPrt = true) : low xs = true := by
  unfold low
  rw [List.all_eq_true] at h ⊢
  intro x hx
  have := h x hx
  simp [isPrt, isLet, isDig] at this
  simp; omega
theorem span_full {p : Nat → Bool} {xs : List Nat} (h : xs.all p = true) : spanL p xs = xs.length := by
  induction xs with
  | nil => rfl
  | cons x r ih =>
    rw [List.all_cons, Bool.and_eq_true] at h
    unfold spanL
    rw [if_pos h.1, ih h.2]
    rfl
theorem begB_head {u p : List Nat} {c : Nat} (h : uAt u 0 ≠ c) : begB u (c :: p) = false := by
  unfold begB
  apply decide_eq_false
  intro e
  apply h
  cases u with
  | nil => cases e
  | cons x r =>
    rw [List.length_cons, List.take_succ_cons] at e
    injection e
/-- Letters and digits behind a letter: one token. -/
theorem tok_word (s : ByteArray) (h0 : isLet (uAt (nats s) 0) = true) (ha : (nats s).all isPrt = true) (hs : s.size ≤ 4096) :
    tokM (nats s) = ⟨oneT (if wordN s.data.toList = 0 then 1 else 6) s, 0, 0⟩ := by
  obtain ⟨b1, b2, b3⟩ := let_ne h0
  have hl : (nats s).length = s.size := nats_len s
  have hp : 0 < (nats s).length := uAt_in (i := 0) (by intro e; rw [e] at h0; simp [isLet] at h0)
  obtain ⟨m, hm⟩ : ∃ m, (nats s).length = m + 1 := ⟨(nats s).length - 1, by omega⟩
  have hsk : skpM (nats s) = ⟨0, false, 0⟩ := by
    unfold skpM
    rw [b1, b2, begB_head b3, begB_head b3]
    rfl
  have hfull := span_full ha
  have hpl : plS ((nats s).take (nats s).length) = s := by
    rw [List.take_length]
    unfold plS
    rw [if_pos (prt_low ha), byts_nats]
  have hu : uAt (nats s) (nats s).length = 0 := by unfold uAt; rw [List.getD_eq_getElem?_getD, List.getElem?_eq_none (Nat.le_refl _)]; rfl
  have hrd : redM (nats s) true = ⟨{ tk0 with k := if wordN s.data.toList = 0 then 1 else 6, t := s }, (nats s).length, 0⟩ := by
    unfold redM
    rw [if_pos h0]
    unfold wrdM
    rw [hfull, hu, if_neg (by decide), hpl]
  unfold tokM
  rw [if_neg (by omega), hm, runM, hm, if_pos (Nat.succ_pos _)]
  simp only [List.drop_zero, decide_true]
  rw [hsk, hrd]
  simp only [ne_eq, not_true_eq_false, if_false, Nat.lt_irrefl, Nat.zero_add]
  have e : ∀ (nl : Bool) (acc : List Tk) (f : Nat), runM (nats s) (nats s).length nl acc f = ⟨acc ++ [{ tk0 with a := (nats s).length, nl := nl }], 0, 0⟩ := fun nl acc f => by
    cases f with
    | zero => rfl
    | succ f => rw [runM, if_neg (Nat.lt_irrefl _)]
  rw [e, hl]
  rfl
set_option maxRecDepth 100000 in
theorem tok_signs1 : ∀ l ∈ signs1, tokM (l.map UInt8.toNat) = ⟨oneT 5 ⟨l.toArray⟩, 0, 0⟩ := by
  unfold signs1
  repeat' (first | exact List.forall_mem_nil _ | refine List.forall_mem_cons.2 ⟨by kernel_rfl, ?_⟩)
set_option maxRecDepth 100000 in
theorem tok_signs2 : ∀ l ∈ signs2, (tokM (l.map UInt8.toNat)).e = 6 := by
  unfold signs2
  repeat' (first | exact List.forall_mem_nil _ | refine List.forall_mem_cons.2 ⟨by kernel_rfl, ?_⟩)
set_option maxRecDepth 100000 in
theorem words_ok : ∀ l ∈ words1 ++ words2, isLet (uAt (l.map UInt8.toNat) 0) = true ∧ (l.map UInt8.toNat).all isPrt = true := by
  unfold words1 words2
  simp only [List.cons_append, List.nil_append]
  repeat' (first | exact List.forall_mem_nil _ | refine List.forall_mem_cons.2 ⟨⟨by kernel_rfl, by kernel_rfl⟩, ?_⟩)
theorem nats_data (s : ByteArray) : nats s = s.data.toList.map UInt8.toNat := rfl
theorem data_mk (s : ByteArray) : (⟨s.data.toList.toArray⟩ : ByteArray) = s := by cases s; rfl
theorem tok_sign1 (s : ByteArray) (h : signN s.data.toList = 1) : tokM (nats s) = ⟨oneT 5 s, 0, 0⟩ := by
  have hm : s.data.toList ∈ signs1 := by
    unfold signN at h
    by_cases q : signs1.contains s.data.toList = true
    · simpa using q
    · rw [if_neg q] at h; split at h <;> cases h
  have e := tok_signs1 _ hm
  rw [data_mk] at e
  exact e
theorem tok_sign2 (s : ByteArray) (h : signN s.data.toList = 2) : (tokM (nats s)).e = 6 := by
  have hm : s.data.toList ∈ signs2 := by
    unfold signN at h
    by_cases q : signs1.contains s.data.toList = true
    · rw [if_pos q] at h; cases h
    · rw [if_neg q] at h
      by_cases q2 : signs2.contains s.data.toList = true
      · simpa using q2
      · rw [if_neg q2] at h; cases h
  exact tok_signs2 _ hm
theorem tok_isword (s : ByteArray) (h : wordN s.data.toList ≠ 0) (hs : s.size ≤ 4096) : tokM (nats s) = ⟨oneT 6 s, 0, 0⟩ := by
  have hm : s.data.toList ∈ words1 ++ words2 := by
    unfold wordN at h
    by_cases q : words1.contains s.data.toList = true
    · exact List.mem_append.2 (.inl (by simpa using q))
    · rw [if_neg q] at h
      by_cases q2 : words2.contains s.data.toList = true
      · exact List.mem_append.2 (.inr (by simpa using q2))
      · rw [if_neg q2] at h; exact absurd rfl h
  obtain ⟨h1, h2⟩ := words_ok _ hm
  rw [tok_word s h1 h2 hs, if_neg h]
theorem tok_isname (s : ByteArray) (h : nameB s = true) (hs : s.size ≤ 4096) : tokM (nats s) = ⟨oneT 1 s, 0, 0⟩ ∧ wordN s.data.toList = 0 := by
  unfold nameB at h
  simp only [Bool.and_eq_true, Bool.not_eq_true', beq_iff_eq] at h
  obtain ⟨⟨⟨h1, h2⟩, h3⟩, h4⟩ := h
  have hp : 0 < (nats s).length := by
    rw [nats_data, List.length_map]
    cases hq : s.data.toList with
    | nil => rw [hq] at h1; cases h1
    | cons _ _ => simp
  have hx : isPrt (uAt (nats s) 0) = true := List.all_eq_true.1 h3 _ (getD_mem hp)
  have hl : isLet (uAt (nats s) 0) = true := by
    unfold isPrt at hx
    rw [h2, Bool.or_false] at hx
    exact hx
  exact ⟨by rw [tok_word s hl h3 hs, if_pos h4], h4⟩
end Go.Proofs.YtaigkjffglbknaaDoor
