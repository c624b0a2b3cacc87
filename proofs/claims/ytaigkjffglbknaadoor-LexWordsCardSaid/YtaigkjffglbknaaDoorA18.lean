/- Contracts: the token at a unit. -/
import Derived.Test.YtaigkjffglbknaaDoorA17
namespace Go.Proofs.YtaigkjffglbknaaDoor
open Go.RowKit


theorem pun_dot (ys : List Nat) (h : uAt ys 0 = 46) (k : Nat) (hk : 0 < k) : (punM ys k).data.toList ≠ [] := by
  cases ys with
  | nil => simp [uAt] at h
  | cons y r =>
    have hy : y = 46 := h
    subst hy
    induction k with
    | zero => omega
    | succ k ih =>
      rw [punM]
      split
      · rename_i hs
        cases k with
        | zero =>
          have h1 : signN (plS (List.take (0 + 1) (46 :: r))).data.toList = 1 := by
            show signN (plS [46]).data.toList = 1
            rfl
          rw [h1] at hs
          cases hs
        | succ k => exact ih (by omega)
      · rename_i hs
        split
        · simp
        · intro e
          rw [e] at hs
          exact hs (by rfl)
theorem empty_of {s : ByteArray} (h : s.data.toList = []) : s = ⟨#[]⟩ := by
  have e : s.data = #[] := by simpa using h
  cases s
  simp only at e
  rw [e]
theorem red_z {g o n c : Nat} {xs : List Nat} {w : World} (h : Calls Tryd.prog 32 #[.slice (some ⟨g, o, none⟩) n c, .int .i64 ((0 : Nat) : Int)] w (RetTok (redM xs (decide ((0 : Nat) = 0))) w)) : Calls Tryd.prog 32 #[.slice (some ⟨g, o, none⟩) n c, .int .i64 0] w (RetTok (redM xs true) w) := h
theorem redA_c (g o : Nat) (xs : List Nat) (n c a : Nat) (w : World) (h : Ar .u16 65536 w (some ⟨g, o, none⟩) xs n c) (ha : a < n) (a0 : a ≠ 0) (hn : n ≤ 140737488355) (hL : Lai w) :
    Calls Tryd.prog 32 #[.slice (some ⟨g, o, none⟩) n c, .int .i64 a] w (RetTok (redM (xs.drop a) (decide (a = 0))) w) := by
  have R := Lib.hid (h.dr (Nat.le_of_lt ha))
  obtain ⟨g2, o2, e2, hg, hat⟩ := h.rd.at_ (j := a) (by rw [← h.len]; exact ha)
  injection e2 with e2
  injection e2 with e3 e4
  subst e3 e4
  have hcell := hat a (by rw [← h.len]; exact ha)
  have e5 : uAt (xs.drop a) 0 = xs.getD a 0 := by unfold uAt; rw [getD_drop]; rfl
  rw [← e5] at hcell
  have hvb : uAt (xs.drop a) 0 < 65536 := uAt_bd R.out 0
  have hxb : uAt (xs.drop a) 1 < 65536 := uAt_bd R.out 1
  have hcap := h.cap
  have h0l : 0 < n - a := by omega
  have bf : ∀ b : Bool, ¬ b = true → b = false := fun b q => by simpa using q
  have az : ((a : Int) == 0) = false := by simp; omega
  by_cases el : isLet (uAt (xs.drop a) 0) = true
  · exact red_p0 g o (xs.drop a) n c a _ w R hg ha hcap hn (Lib.hid rfl) hvb hcell h0l (Lib.hid el)
  have el := bf _ el
  by_cases ed : isDig (uAt (xs.drop a) 0) = true
  · exact red_p1 g o (xs.drop a) n c a _ w R hg ha hcap hn (Lib.hid rfl) hvb hcell h0l (Lib.hid el) (Lib.hid ed) (Lib.hid hL)
  have ed := bf _ ed
  by_cases eq : isQuo (uAt (xs.drop a) 0) = true
  · exact red_p2 g o (xs.drop a) n c a _ w R hg ha hcap hn (Lib.hid rfl) hvb hcell h0l (Lib.hid el) (Lib.hid ed) (Lib.hid eq)
  have eq := bf _ eq
  obtain ⟨s, hs⟩ : ∃ s, punM (xs.drop a) (min 4 (xs.drop a).length) = s := ⟨_, rfl⟩
  by_cases d46 : (((uAt (xs.drop a) 0) : Int) == 46) = true
  · by_cases eg : isDig (uAt (xs.drop a) 1) = true
    · exact red_p3 g o (xs.drop a) n c a _ w R hg ha hcap hn (Lib.hid rfl) hvb hcell h0l (Lib.hid el) (Lib.hid ed) (Lib.hid eq) d46 _ (Lib.hid rfl) hxb (Lib.hid eg)
    have eg := bf _ eg
    by_cases es : s.data.toList = []
    · exact absurd (by rw [hs]; exact es) (pun_dot (xs.drop a) (by simp at d46; omega) (min 4 (xs.drop a).length) (by have := R.out.len; omega))
    · exact red_p4 g o (xs.drop a) n c a _ w R hg ha hcap hn (Lib.hid rfl) hvb hcell h0l (Lib.hid el) (Lib.hid ed) (Lib.hid eq) d46 _ (Lib.hid rfl) hxb (Lib.hid eg) s (Lib.hid hs) (by rw [data_eq]; simpa using es) (by rw [toList_data]; simpa using es)
  have d46 := bf _ d46
  by_cases es : s.data.toList = []
  · have s0 := empty_of es
    by_cases h128 : 128 ≤ (uAt (xs.drop a) 0)
    · exact red_p6 g o (xs.drop a) n c a _ w R hg ha hcap hn (Lib.hid rfl) hvb hcell h0l (Lib.hid el) (Lib.hid ed) (Lib.hid eq) d46 s (Lib.hid hs) s0 h128
    have h128 := Nat.lt_of_not_le h128
    by_cases d96 : (((uAt (xs.drop a) 0) : Int) == 96) = true
    · exact red_p7 g o (xs.drop a) n c a _ w R hg ha hcap hn (Lib.hid rfl) hvb hcell h0l (Lib.hid el) (Lib.hid ed) (Lib.hid eq) d46 s (Lib.hid hs) s0 h128 d96
    have d96 := bf _ d96
    by_cases d92 : (((uAt (xs.drop a) 0) : Int) == 92) = true
    · exact red_p8 g o (xs.drop a) n c a _ w R hg ha hcap hn (Lib.hid rfl) hvb hcell h0l (Lib.hid el) (Lib.hid ed) (Lib.hid eq) d46 s (Lib.hid hs) s0 h128 d96 d92
    have d92 := bf _ d92
    exact red_p11 g o (xs.drop a) n c a _ w R hg ha hcap hn (Lib.hid rfl) hvb hcell h0l (Lib.hid el) (Lib.hid ed) (Lib.hid eq) d46 s (Lib.hid hs) s0 h128 d96 d92 az
  · exact red_p5 g o (xs.drop a) n c a _ w R hg ha hcap hn (Lib.hid rfl) hvb hcell h0l (Lib.hid el) (Lib.hid ed) (Lib.hid eq) d46 s (Lib.hid hs) (by rw [data_eq]; simpa using es) (by rw [toList_data]; simpa using es)
theorem redZ_c (g o : Nat) (xs : List Nat) (n c : Nat) (w : World) (h' : Ar .u16 65536 w (some ⟨g, o, none⟩) xs n c) (hn0 : 0 < n) (hn : n ≤ 140737488355) (hL : Lai w) :
    Calls Tryd.prog 32 #[.slice (some ⟨g, o, none⟩) n c, .int .i64 0] w (RetTok (redM xs true) w) := by
  have h := Lib.hid h'
  obtain ⟨g2, o2, e2, hg, hat⟩ := h'.rd.at_ (j := 0) (by rw [← h'.len]; exact hn0)
  injection e2 with e2
  injection e2 with e3 e4
  subst e3 e4
  have hcell0 : w.cell? ⟨g, o, none⟩ = some (.int .u16 (uAt xs 0)) := hat 0 (by rw [← h'.len]; exact hn0)
  have hvb : uAt xs 0 < 65536 := uAt_bd h' 0
  have hxb : uAt xs 1 < 65536 := uAt_bd h' 1
  have hcap := h'.cap
  have bf : ∀ b : Bool, ¬ b = true → b = false := fun b q => by simpa using q
  by_cases el : isLet (uAt xs 0) = true
  · exact red_z (red_p0 g o xs n c 0 _ w h hg hn0 hcap hn (Lib.hid rfl) hvb hcell0 hn0 (Lib.hid el))
  have el := bf _ el
  by_cases ed : isDig (uAt xs 0) = true
  · exact red_z (red_p1 g o xs n c 0 _ w h hg hn0 hcap hn (Lib.hid rfl) hvb hcell0 hn0 (Lib.hid el) (Lib.hid ed) (Lib.hid hL))
  have ed := bf _ ed
  by_cases eq : isQuo (uAt xs 0) = true
  · exact red_z (red_p2 g o xs n c 0 _ w h hg hn0 hcap hn (Lib.hid rfl) hvb hcell0 hn0 (Lib.hid el) (Lib.hid ed) (Lib.hid eq))
  have eq := bf _ eq
  obtain ⟨s, hs⟩ : ∃ s, punM xs (min 4 xs.length) = s := ⟨_, rfl⟩
  by_cases d46 : (((uAt xs 0) : Int) == 46) = true
  · by_cases eg : isDig (uAt xs 1) = true
    · exact red_z (red_p3 g o xs n c 0 _ w h hg hn0 hcap hn (Lib.hid rfl) hvb hcell0 hn0 (Lib.hid el) (Lib.hid ed) (Lib.hid eq) d46 _ (Lib.hid rfl) hxb (Lib.hid eg))
    have eg := bf _ eg
    by_cases es : s.data.toList = []
    · exact absurd (by rw [hs]; exact es) (pun_dot xs (by simp at d46; omega) (min 4 xs.length) (by have := h.out.len; omega))
    · exact red_z (red_p4 g o xs n c 0 _ w h hg hn0 hcap hn (Lib.hid rfl) hvb hcell0 hn0 (Lib.hid el) (Lib.hid ed) (Lib.hid eq) d46 _ (Lib.hid rfl) hxb (Lib.hid eg) s (Lib.hid hs) (by rw [data_eq]; simpa using es) (by rw [toList_data]; simpa using es))
  have d46 := bf _ d46
  by_cases es : s.data.toList = []
  · have s0 := empty_of es
    by_cases h128 : 128 ≤ (uAt xs 0)
    · exact red_z (red_p6 g o xs n c 0 _ w h hg hn0 hcap hn (Lib.hid rfl) hvb hcell0 hn0 (Lib.hid el) (Lib.hid ed) (Lib.hid eq) d46 s (Lib.hid hs) s0 h128)
    have h128 := Nat.lt_of_not_le h128
    by_cases d96 : (((uAt xs 0) : Int) == 96) = true
    · exact red_z (red_p7 g o xs n c 0 _ w h hg hn0 hcap hn (Lib.hid rfl) hvb hcell0 hn0 (Lib.hid el) (Lib.hid ed) (Lib.hid eq) d46 s (Lib.hid hs) s0 h128 d96)
    have d96 := bf _ d96
    by_cases d92 : (((uAt xs 0) : Int) == 92) = true
    · exact red_z (red_p8 g o xs n c 0 _ w h hg hn0 hcap hn (Lib.hid rfl) hvb hcell0 hn0 (Lib.hid el) (Lib.hid ed) (Lib.hid eq) d46 s (Lib.hid hs) s0 h128 d96 d92)
    have d92 := bf _ d92
    by_cases hb : begB xs (nats ⟨#[35, 33]⟩) = true
    · exact red_p9 g o xs n c _ w h hg hcap hn (Lib.hid rfl) hvb hcell0 hn0 (Lib.hid el) (Lib.hid ed) (Lib.hid eq) d46 s (Lib.hid hs) s0 h128 d96 d92 (Lib.hid hb)
    · exact red_p10 g o xs n c _ w h hg hcap hn (Lib.hid rfl) hvb hcell0 hn0 (Lib.hid el) (Lib.hid ed) (Lib.hid eq) d46 s (Lib.hid hs) s0 h128 d96 d92 (Lib.hid (bf _ hb))
  · exact red_z (red_p5 g o xs n c 0 _ w h hg hn0 hcap hn (Lib.hid rfl) hvb hcell0 hn0 (Lib.hid el) (Lib.hid ed) (Lib.hid eq) d46 s (Lib.hid hs) (by rw [data_eq]; simpa using es) (by rw [toList_data]; simpa using es))
end Go.Proofs.YtaigkjffglbknaaDoor
