/- Digits as a source: a number, a BigInt; a minus ahead of them. -/
import Derived.Test.YtaigkjffglbknaaDoorQ5
namespace Go.Proofs.YtaigkjffglbknaaDoor
open Go.RowKit

theorem dd_dig : ∀ (m : Nat), ∀ x ∈ Lib.decDigits m, 48 ≤ x.toNat ∧ x.toNat ≤ 57 := fun m => by
  induction m using Nat.strongRecOn with
  | _ m ih =>
    intro x hx
    by_cases h : m < 10
    · rw [Lib.decDigits_one h] at hx
      simp only [List.mem_singleton] at hx
      subst hx
      rw [UInt8.toNat_ofNat']
      omega
    · rw [Lib.decDigits, dif_neg h] at hx
      rcases List.mem_append.1 hx with h1 | h1
      · exact ih (m / 10) (by omega) x h1
      · simp only [List.mem_singleton] at h1
        subst h1
        rw [UInt8.toNat_ofNat']
        omega
theorem dd_head : ∀ (m : Nat), 0 < m → ∃ c r, Lib.decDigits m = c :: r ∧ c.toNat ≠ 48 := fun m => by
  induction m using Nat.strongRecOn with
  | _ m ih =>
    intro h0
    by_cases h : m < 10
    · refine ⟨_, _, Lib.decDigits_one h, ?_⟩
      rw [UInt8.toNat_ofNat']
      omega
    · obtain ⟨c, r, e, q⟩ := ih (m / 10) (by omega) (by omega)
      exact ⟨c, r ++ [UInt8.ofNat (48 + m % 10)], by rw [Lib.decDigits, dif_neg h, e]; rfl, q⟩
theorem dd_cons (m : Nat) : ∃ c r, Lib.decDigits m = c :: r ∧ 48 ≤ c.toNat ∧ c.toNat ≤ 57 := by
  rcases Nat.eq_zero_or_pos m with rfl | h
  · exact ⟨48, [], Lib.decDigits_one (by omega), by decide, by decide⟩
  · obtain ⟨c, r, e, _⟩ := dd_head m h
    have := dd_dig m c (by rw [e]; simp)
    exact ⟨c, r, e, this⟩
theorem not_name {l : List UInt8} (h : ∀ x ∈ l, 48 ≤ x.toNat ∧ x.toNat ≤ 57) (d : UInt8) (r : List UInt8) (hd : d.toNat < 48 ∨ 57 < d.toNat) : l ≠ d :: r := by
  rintro rfl
  have := h d (by simp)
  omega
theorem dd_ne (m : Nat) : Lib.decDigits m ≠ [] := by
  obtain ⟨c, r, e, _⟩ := dd_cons m
  rw [e]
  simp

theorem pu_all : ∀ (m : Nat), m ≤ 9223372036854775807 → ∀ r, Lib.parseUint10 0 (Lib.decDigits m ++ r) = Lib.parseUint10 m r := fun m => by
  induction m using Nat.strongRecOn with
  | _ m ih =>
    intro hm r
    by_cases h : m < 10
    · rw [Lib.decDigits_one h]
      have e : (UInt8.ofNat (48 + m)).toNat = 48 + m := by rw [UInt8.toNat_ofNat']; omega
      show Lib.parseUint10 0 (UInt8.ofNat (48 + m) :: r) = _
      rw [Lib.parseUint10, e, if_pos (by omega), if_neg (by omega), if_neg (by omega)]
      congr 1
      omega
    · rw [Lib.decDigits, dif_neg h, List.append_assoc, ih (m / 10) (by omega) (by omega)]
      have e : (UInt8.ofNat (48 + m % 10)).toNat = 48 + m % 10 := by rw [UInt8.toNat_ofNat']; omega
      show Lib.parseUint10 (m / 10) (UInt8.ofNat (48 + m % 10) :: r) = _
      rw [Lib.parseUint10, e, if_pos (by omega), if_neg (by omega), if_neg (by omega)]
      congr 1
      omega
theorem atoi_all {m : Nat} (hm : m ≤ 9223372036854775807) : Lib.atoiAll (Lib.decDigits m) = .ok (m : Int) := by
  have h := pu_all m hm []
  rw [List.append_nil] at h
  obtain ⟨c, r, e, h1, h2⟩ := dd_cons m
  rw [e] at h ⊢
  have h3 : Lib.parseMag (c :: r) = .ok m := by
    unfold Lib.parseMag
    rw [if_neg (by simp), h]
    rfl
  unfold Lib.atoiAll
  simp only
  rw [if_neg (by omega), h3]
  simp only
  rw [if_neg (by omega), if_neg (by omega), if_neg (by omega)]
theorem par_all {m : Nat} (hm : m ≤ 9223372036854775807) : parS (Lib.decDigits m) = if m ≤ 9007199254740991 then ⟨0, m, true⟩ else ofS m := by
  unfold parS
  rw [if_neg (not_name (dd_dig m) 78 _ (by decide)), if_neg (not_name (dd_dig m) 73 _ (by decide)), if_neg (not_name (dd_dig m) 45 _ (by decide)), atoi_all hm]
  simp only
  rw [if_pos (Lib.itoa_nonneg m)]
  split
  · unfold ofS
    rw [if_pos (by omega)]
  · rfl
theorem par_ok {m : Nat} (hm : m ≤ 9223372036854775807) : (parS (Lib.decDigits m)).ok = decide (m ≤ 9007199254740991) ∧ (m ≤ 9007199254740991 → (parS (Lib.decDigits m)).k = 0 ∧ (parS (Lib.decDigits m)).n = m) := by
  rw [par_all hm]
  by_cases h : m ≤ 9007199254740991
  · rw [if_pos h]; exact ⟨(decide_eq_true h).symm, fun _ => ⟨rfl, rfl⟩⟩
  · rw [if_neg h]
    unfold ofS
    rw [if_neg (by omega)]
    exact ⟨(decide_eq_false h).symm, fun q => absurd q h⟩
theorem bg_dec (m : Nat) : Bg.dec m = Lib.decDigits m := by
  induction m using Nat.strongRecOn with
  | _ m ih =>
    by_cases h : m < 10
    · rw [Bg.dec_small h, Lib.decDigits_one h]
    · rw [Bg.dec_big h, Lib.decDigits, dif_neg h, ih _ (by omega)]
theorem par_big {m : Nat} (hm : m ≤ 9223372036854775807) : Bg.parE (Lib.decDigits m) = 0 ∧ Bg.parI (Lib.decDigits m) = m := by
  have h : Bg.rd (Lib.decDigits m) = .is (m : Int) := by
    rw [← bg_dec]
    have e : Bg.txt (m : Int) = Bg.dec m := by
      unfold Bg.txt
      rw [if_neg (by omega)]
      simp
    rw [← e]
    exact Bg.rd_txt (by
      have : (9223372036854775807 : Nat) < Bg.B ^ 8 := by unfold Bg.B; decide
      simp; omega)
  unfold Bg.parE Bg.parI
  rw [h]
  exact ⟨rfl, rfl⟩
/-- The units of digits. -/
def dgs (m : Nat) : List Nat := nats ⟨(Lib.decDigits m).toArray⟩
theorem dgs_eq (m : Nat) : dgs m = (Lib.decDigits m).map UInt8.toNat := rfl
theorem dgs_dig (m : Nat) : ∀ x ∈ dgs m, 48 ≤ x ∧ x ≤ 57 := fun x hx => by
  rw [dgs_eq] at hx
  obtain ⟨y, hy, rfl⟩ := List.mem_map.1 hx
  exact dd_dig m y hy
theorem dgs_all (m : Nat) : (dgs m).all isDig = true := by
  rw [List.all_eq_true]
  intro x hx
  have := dgs_dig m x hx
  simp [isDig]; omega
theorem dgs_low (m : Nat) : low (dgs m) = true := by
  unfold low
  rw [List.all_eq_true]
  intro x hx
  have := dgs_dig m x hx
  simp; omega
theorem dgs_cons (m : Nat) : ∃ c r, dgs m = c :: r ∧ 48 ≤ c ∧ c ≤ 57 ∧ ((dgs m).length = 1 ∨ c ≠ 48) := by
  rcases Nat.eq_zero_or_pos m with rfl | h
  · refine ⟨48, [], ?_, by decide, by decide, .inl ?_⟩
    · rw [dgs_eq, Lib.decDigits_one (by omega)]; rfl
    · rw [dgs_eq, Lib.decDigits_one (by omega)]; rfl
  · obtain ⟨c, r, e, q⟩ := dd_head m h
    have hc := dd_dig m c (by rw [e]; simp)
    exact ⟨c.toNat, r.map UInt8.toNat, by rw [dgs_eq, e]; rfl, hc.1, hc.2, .inr q⟩
theorem dgs_pl (m : Nat) : (plS (dgs m)).data.toList = Lib.decDigits m := by
  unfold plS
  rw [if_pos (dgs_low m), show dgs m = nats ⟨(Lib.decDigits m).toArray⟩ from rfl, byts_nats]
theorem span_rest {p : Nat → Bool} {xs r : List Nat} (h : xs.all p = true) (hr : p (uAt r 0) = false ∨ r = []) : spanL p (xs ++ r) = xs.length := by
  induction xs with
  | nil =>
    cases r with
    | nil => rfl
    | cons x r =>
      have : p x = false := by
        rcases hr with h | h
        · exact h
        · cases h
      show (if p x then _ else 0) = 0
      rw [this]; rfl
  | cons x l ih =>
    rw [List.all_cons, Bool.and_eq_true] at h
    show (if p x then _ else 0) = _
    rw [if_pos h.1, show List.append l r = l ++ r from rfl, ih h.2]
    rfl
theorem dig_red {c : Nat} {ys : List Nat} {z : Bool} (h : uAt ys 0 = c) (h1 : 48 ≤ c) (h2 : c ≤ 57) : redM ys z = numM ys ∧ skpM ys = ⟨0, false, 0⟩ := by
  have hl : isLet c = false := by simp [isLet]; omega
  have hd : isDig c = true := by simp [isDig]; omega
  have hb : isBlk c = false := by simp [isBlk]; omega
  have he : isEnd c = false := by simp [isEnd]; omega
  constructor
  · unfold redM
    rw [h, hl, hd]
    rfl
  · unfold skpM
    rw [h, hb, he, begB_head (by rw [h]; omega), begB_head (by rw [h]; omega)]
    rfl
theorem uAt_app0 {c : Nat} {r s : List Nat} : uAt ((c :: r) ++ s) 0 = c := rfl
theorem uAt_end {xs r : List Nat} : uAt (xs ++ r) xs.length = uAt r 0 := by
  unfold uAt
  rw [List.getD_eq_getElem?_getD, List.getElem?_append_right (Nat.le_refl _), Nat.sub_self, List.getD_eq_getElem?_getD]
/-- Digits alone: a number. -/
theorem num_dgs (m : Nat) (hm : m ≤ 9223372036854775807) : numM (dgs m) = if m ≤ 9007199254740991 then ⟨{ tk0 with k := 2, nk := 0, n := m }, (dgs m).length, 0⟩ else flt 6 := by
  obtain ⟨c, r, e, h1, h2, h3⟩ := dgs_cons m
  have hs : spanL isDig (dgs m) = (dgs m).length := span_full (dgs_all m)
  have hu : uAt (dgs m) (dgs m).length = 0 := by unfold uAt; rw [List.getD_eq_getElem?_getD, List.getElem?_eq_none (Nat.le_refl _)]; rfl
  have h0 : uAt (dgs m) 0 = c := by rw [e]; rfl
  have g1 : ¬ (1 < (dgs m).length ∧ uAt (dgs m) 0 = 48) := by
    rw [h0]
    rintro ⟨q1, q2⟩
    rcases h3 with q | q
    · omega
    · exact q q2
  obtain ⟨p1, p2⟩ := par_ok hm
  unfold numM
  rw [hs, List.take_length, hu, if_neg g1, if_neg (by decide), dgs_pl]
  rw [if_neg (by rw [show isFra 0 = false from rfl, show isRad 0 = false from rfl]; simp), if_neg (by decide), p1]
  by_cases h : m ≤ 9007199254740991
  · rw [if_pos (decide_eq_true h), if_pos h, (p2 h).1, (p2 h).2]
  · rw [if_neg (by rw [decide_eq_false h]; decide), if_neg h]
/-- Digits with n behind: a BigInt. -/
theorem num_big (m : Nat) (hm : m ≤ 9223372036854775807) : numM (dgs m ++ [110]) = ⟨{ tk0 with k := 3, b := m }, (dgs m).length + 1, 0⟩ := by
  obtain ⟨c, r, e, h1, h2, h3⟩ := dgs_cons m
  have hs : spanL isDig (dgs m ++ [110]) = (dgs m).length := span_rest (dgs_all m) (.inl rfl)
  have hu : uAt (dgs m ++ [110]) (dgs m).length = 110 := uAt_end
  have hu2 : uAt (dgs m ++ [110]) ((dgs m).length + 1) = 0 := by unfold uAt; rw [List.getD_eq_getElem?_getD, List.getElem?_eq_none (by simp)]; rfl
  have h0 : uAt (dgs m ++ [110]) 0 = c := by rw [e]; rfl
  have g1 : ¬ (1 < (dgs m).length ∧ uAt (dgs m ++ [110]) 0 = 48) := by
    rw [h0]
    rintro ⟨q1, q2⟩
    rcases h3 with q | q
    · omega
    · exact q q2
  obtain ⟨p1, p2⟩ := par_big hm
  have hz : (plS (dgs m)).size = (dgs m).length := by unfold plS; rw [if_pos (dgs_low m), byts_size]
  unfold numM
  rw [hs, hu, hu2, List.take_left, if_neg g1, if_pos rfl]
  unfold bigM
  rw [dgs_pl, p1, if_pos rfl, if_neg (by decide), p2, hz]
theorem num_zero (m : Nat) : numM (48 :: dgs m) = flt 5 := by
  obtain ⟨c, r, e, h1, h2, h3⟩ := dgs_cons m
  have hs : spanL isDig (48 :: dgs m) = (dgs m).length + 1 := by
    show (if isDig 48 then _ else 0) = _
    rw [if_pos (by decide), span_full (dgs_all m)]
  have hl : 0 < (dgs m).length := by rw [e]; simp
  unfold numM
  rw [hs, if_pos ⟨by omega, rfl⟩]
theorem run_last (xs : List Nat) (nl : Bool) (acc : List Tk) (f : Nat) : runM xs xs.length nl acc f = ⟨acc ++ [{ tk0 with a := xs.length, nl := nl }], 0, 0⟩ := run_end2 _ _ _ _ _ (Nat.lt_irrefl _)
theorem dgs_len (m : Nat) (hm : m ≤ 9223372036854775808) : (dgs m).length ≤ 30 := by
  have hd : ∀ (k m : Nat), m < 10 ^ (k + 1) → (Lib.decDigits m).length ≤ k + 1 := by
    intro k
    induction k with
    | zero => intro m h; rw [Lib.decDigits_one (by simpa using h)]; simp
    | succ k ih =>
      intro m h
      by_cases q : m < 10
      · rw [Lib.decDigits_one q]; simp
      · rw [Lib.decDigits, dif_neg q, List.length_append]
        have := ih (m / 10) (by rw [Nat.pow_succ] at h; omega)
        simp
        omega
  have := hd 19 m (by omega)
  rw [dgs_eq, List.length_map]
  omega
/-- One token and the end. -/
theorem tok_one (xs : List Nat) (t : Tk) (hx : 0 < xs.length) (hl : xs.length ≤ 4096) (hs : skpM xs = ⟨0, false, 0⟩) (hr : redM xs true = ⟨t, xs.length, 0⟩) : tokM xs = ⟨[{ t with a := 0, nl := false }, { tk0 with a := xs.length }], 0, 0⟩ := by
  obtain ⟨m, hm⟩ : ∃ m, xs.length = m + 1 := ⟨xs.length - 1, by omega⟩
  unfold tokM
  rw [if_neg (by omega), hm, runM, hm, if_pos (Nat.succ_pos _)]
  simp only [List.drop_zero, decide_true]
  rw [hs, hr]
  simp only [ne_eq, not_true_eq_false, if_false, Nat.lt_irrefl, Nat.zero_add]
  rw [run_last, hm]
  rfl
theorem tok_flt (xs : List Nat) (e : Nat) (he : e ≠ 0) (hx : 0 < xs.length) (hl : xs.length ≤ 4096) (hs : skpM xs = ⟨0, false, 0⟩) (hr : redM xs true = flt e) : tokM xs = ⟨[], 0, e⟩ := by
  obtain ⟨m, hm⟩ : ∃ m, xs.length = m + 1 := ⟨xs.length - 1, by omega⟩
  unfold tokM
  rw [if_neg (by omega), hm, runM, hm, if_pos (Nat.succ_pos _)]
  simp only [List.drop_zero, decide_true]
  rw [hs, hr]
  simp only [ne_eq, not_true_eq_false, if_false, Nat.lt_irrefl]
  rw [if_pos (show (flt e).e ≠ 0 from he)]
  rfl
def numTk (m : Nat) : Tk := { tk0 with k := 2, nk := 0, n := m }
theorem tok_dgs (m : Nat) (hm : m ≤ 9223372036854775807) : tokM (dgs m) = if m ≤ 9007199254740991 then ⟨[numTk m, { tk0 with a := (dgs m).length }], 0, 0⟩ else ⟨[], 0, 6⟩ := by
  obtain ⟨c, r, e, h1, h2, h3⟩ := dgs_cons m
  have h0 : uAt (dgs m) 0 = c := by rw [e]; rfl
  obtain ⟨q1, q2⟩ := dig_red (z := true) h0 h1 h2
  have hl := dgs_len m (by omega)
  have hp : 0 < (dgs m).length := by rw [e]; simp
  rw [num_dgs m hm] at q1
  by_cases h : m ≤ 9007199254740991
  · rw [if_pos h] at q1 ⊢
    exact tok_one _ _ hp (by omega) q2 q1
  · rw [if_neg h] at q1 ⊢
    exact tok_flt _ 6 (by decide) hp (by omega) q2 q1
theorem tok_bigd (m : Nat) (hm : m ≤ 9223372036854775807) : tokM (dgs m ++ [110]) = ⟨[{ tk0 with k := 3, b := m }, { tk0 with a := (dgs m).length + 1 }], 0, 0⟩ := by
  obtain ⟨c, r, e, h1, h2, h3⟩ := dgs_cons m
  have h0 : uAt (dgs m ++ [110]) 0 = c := by rw [e]; rfl
  obtain ⟨q1, q2⟩ := dig_red (z := true) h0 h1 h2
  have hl := dgs_len m (by omega)
  rw [num_big m hm] at q1
  have := tok_one (dgs m ++ [110]) { tk0 with k := 3, b := m } (by simp) (by simp; omega) q2 (by rw [q1]; simp)
  rw [this, List.length_append, List.length_singleton]
  rfl
theorem tok_zero (m : Nat) (hm : m ≤ 9223372036854775807) : tokM (48 :: dgs m) = ⟨[], 0, 5⟩ := by
  obtain ⟨q1, q2⟩ := dig_red (c := 48) (ys := 48 :: dgs m) (z := true) rfl (by decide) (by decide)
  have hl := dgs_len m (by omega)
  rw [num_zero m] at q1
  exact tok_flt _ 5 (by decide) (by simp) (by simp; omega) q2 q1
set_option maxRecDepth 100000 in
theorem signs_dig : ∀ l ∈ signs1 ++ signs2, (l.any fun c => isDig c.toNat) = false := by
  unfold signs1 signs2
  simp only [List.cons_append, List.nil_append]
  repeat' (first | exact List.forall_mem_nil _ | refine List.forall_mem_cons.2 ⟨by kernel_rfl, ?_⟩)
theorem sign_dig {xs : List Nat} {c : Nat} (hc : isDig c = true) (h : c ∈ xs) : signN (plS xs).data.toList = 0 := by
  unfold plS
  by_cases hl : low xs = true
  · rw [if_pos hl]
    by_cases q : (byts xs).data.toList ∈ signs1 ++ signs2
    · have hd := signs_dig _ q
      have e : nats (byts xs) = xs := nats_byts hl
      rw [← e] at h
      obtain ⟨y, hy, rfl⟩ := List.mem_map.1 h
      rw [List.any_eq_false] at hd
      exact absurd hc (hd y hy)
    · rw [List.mem_append, not_or] at q
      unfold signN
      rw [if_neg (by simpa using q.1), if_neg (by simpa using q.2)]
  · rw [if_neg hl]; rfl
theorem pun_neg (c : Nat) (r : List Nat) (hc : isDig c = true) : ∀ k, punM (45 :: c :: r) (k + 1) = ⟨#[45]⟩ := by
  intro k
  induction k with
  | zero => rfl
  | succ k ih =>
    rw [punM, if_pos, ih]
    exact sign_dig hc (by rw [List.take_succ_cons, List.take_succ_cons]; simp)
theorem red_neg (m : Nat) (z : Bool) : redM (45 :: dgs m) z = ⟨{ tk0 with k := 5, t := ⟨#[45]⟩ }, 1, 0⟩ ∧ skpM (45 :: dgs m) = ⟨0, false, 0⟩ := by
  obtain ⟨c, r, e, h1, h2, h3⟩ := dgs_cons m
  have hd : isDig c = true := by simp [isDig]; omega
  rw [e]
  constructor
  · unfold redM
    rw [if_neg (show ¬ isLet (uAt (45 :: c :: r) 0) = true from Bool.false_ne_true), if_neg (show ¬ isDig (uAt (45 :: c :: r) 0) = true from Bool.false_ne_true), if_neg (show ¬ isQuo (uAt (45 :: c :: r) 0) = true from Bool.false_ne_true), if_neg (show ¬ (uAt (45 :: c :: r) 0 = 46 ∧ isDig (uAt (45 :: c :: r) 1) = true) from fun h => absurd (show (45 : Nat) = 46 from h.1) (by decide))]
    obtain ⟨k, hk⟩ : ∃ k, min 4 (45 :: c :: r).length = k + 1 := ⟨min 4 (45 :: c :: r).length - 1, by simp; omega⟩
    rw [hk, pun_neg c r hd k, if_pos (by decide)]
    rfl
  · unfold skpM
    rw [if_neg (show ¬ isBlk (uAt (45 :: c :: r) 0) = true from Bool.false_ne_true), if_neg (show ¬ isEnd (uAt (45 :: c :: r) 0) = true from Bool.false_ne_true), begB_head (u := 45 :: c :: r) (c := 47) (show (45 : Nat) ≠ 47 by decide), begB_head (u := 45 :: c :: r) (c := 47) (show (45 : Nat) ≠ 47 by decide)]
    rfl
theorem itoa_neg {v : Int} (h : v < 0) : ∃ r, Lib.itoa v = 45 :: r := by
  unfold Lib.itoa
  rw [if_pos h]
  exact ⟨_, rfl⟩
theorem par_le {m : Nat} (h : (parS (Lib.decDigits m)).ok = true) : m ≤ 9007199254740991 := by
  unfold parS at h
  rw [if_neg (not_name (dd_dig m) 78 _ (by decide)), if_neg (not_name (dd_dig m) 73 _ (by decide)), if_neg (not_name (dd_dig m) 45 _ (by decide))] at h
  split at h
  · rename_i v _
    by_cases q : Lib.itoa v = Lib.decDigits m
    · rw [if_pos q] at h
      by_cases hv : v < 0
      · obtain ⟨r, e⟩ := itoa_neg hv
        rw [e] at q
        have := dd_dig m 45 (by rw [← q]; simp)
        have : (45 : UInt8).toNat = 45 := rfl
        omega
      · have e := Lib.itoa_nonneg v.toNat
        rw [Int.toNat_of_nonneg (by omega)] at e
        rw [e, ← bg_dec, ← bg_dec] at q
        have q2 := congrArg Bg.num q
        rw [Bg.num_dec, Bg.num_dec] at q2
        unfold ofS at h
        split at h
        · omega
        · cases h
    · rw [if_neg q] at h; cases h
  · cases h
theorem num_no (m : Nat) (hm : 9007199254740991 < m) : numM (dgs m) = flt 6 := by
  obtain ⟨c, r, e, h1, h2, h3⟩ := dgs_cons m
  have hs : spanL isDig (dgs m) = (dgs m).length := span_full (dgs_all m)
  have hu : uAt (dgs m) (dgs m).length = 0 := by unfold uAt; rw [List.getD_eq_getElem?_getD, List.getElem?_eq_none (Nat.le_refl _)]; rfl
  have h0 : uAt (dgs m) 0 = c := by rw [e]; rfl
  have g1 : ¬ (1 < (dgs m).length ∧ uAt (dgs m) 0 = 48) := by
    rw [h0]
    rintro ⟨q1, q2⟩
    rcases h3 with q | q
    · omega
    · exact q q2
  unfold numM
  rw [hs, List.take_length, hu, if_neg g1, if_neg (by decide), dgs_pl]
  rw [if_neg (by rw [show isFra 0 = false from rfl, show isRad 0 = false from rfl]; simp), if_neg (by decide), if_neg (fun h => by have := par_le h; omega)]
/-- A minus and digits. -/
theorem tok_neg (m : Nat) (hm : m ≤ 9223372036854775808) : ((tokM (45 :: dgs m)).e ≠ 0 ∧ 9007199254740991 < m) ∨
    tokM (45 :: dgs m) = ⟨[{ tk0 with k := 5, t := ⟨#[45]⟩ }, { numTk m with a := 1 }, { tk0 with a := (dgs m).length + 1 }], 0, 0⟩ := by
  have hl := dgs_len m (by omega)
  obtain ⟨c, r, e, h1, h2, h3⟩ := dgs_cons m
  have h0 : uAt (dgs m) 0 = c := by rw [e]; rfl
  obtain ⟨q1, q2⟩ := dig_red (z := false) h0 h1 h2
  obtain ⟨n1, n2⟩ := red_neg m true
  have e0 : tokM (45 :: dgs m) = runM (45 :: dgs m) 0 false [] ((dgs m).length + 1) := by unfold tokM; rw [if_neg (by simp; omega)]; rfl
  obtain ⟨j, hj⟩ : ∃ j, (dgs m).length = j + 1 := ⟨(dgs m).length - 1, by rw [e]; simp⟩
  have e1 : tokM (45 :: dgs m) = runM (45 :: dgs m) 1 false [{ tk0 with k := 5, t := ⟨#[45]⟩ }] (j + 1) := by
    rw [e0, hj, runM, if_pos (by simp)]
    simp only [List.drop_zero, decide_true]
    rw [n2, n1]
    simp only [ne_eq, not_true_eq_false, if_false, Nat.lt_irrefl, Nat.zero_add]
    rfl
  rw [e1, runM, if_pos (by simp; omega), show (45 :: dgs m).drop 1 = dgs m from rfl, q2, show decide (1 = 0) = false from rfl, q1]
  simp only [ne_eq, not_true_eq_false, if_false, Nat.lt_irrefl]
  by_cases h : m ≤ 9007199254740991
  · right
    rw [num_dgs m (by omega), if_pos h]
    simp only [not_true_eq_false, if_false]
    rw [run_end2 _ _ _ _ _ (by simp; omega)]
    rw [show 1 + (dgs m).length = (dgs m).length + 1 by omega]
    rfl
  · left
    rw [num_no m (by omega), if_pos (show ¬ (flt 6).e = 0 by decide)]
    exact ⟨by decide, by omega⟩
end Go.Proofs.YtaigkjffglbknaaDoor
