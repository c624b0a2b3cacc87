/- UTF-8, code units, numbers of texts: the plain facts. -/
import Derived.Lib.DecodeN
import Derived.WalkKit
import Derived.Deep.Draws
import Derived.Deep.Quiet
import Derived.WalkSmall
import Derived.Deep.OwnRows
import Derived.DataReads
import Derived.Lib.Hide
namespace Go.Proofs.YtakahpbondaidaaGreatDoor
open Go.Lib

/-- What stands at the head of bytes: the character, and how many bytes it has. -/
def hd (l : List Nat) : Nat × Nat := decodeN l.length (l.getD 0 0) (l.getD 1 0) (l.getD 2 0) (l.getD 3 0)
/-- Is the head no character? -/
def bad (l : List Nat) : Bool := (hd l).1 == 65533 && (hd l).2 == 1
/-- May a character be? -/
def okV (v : Nat) : Prop := v < 55296 ∨ (57344 ≤ v ∧ v ≤ 1114111)
instance (v : Nat) : Decidable (okV v) := inferInstanceAs (Decidable (_ ∨ _))
/-- The bytes of a character. -/
def bts (v : Nat) : List Nat :=
  if v < 128 then [v] else if v < 2048 then [192 + v / 64, 128 + v % 64]
  else if v < 65536 then [224 + v / 4096, 128 + v / 64 % 64, 128 + v % 64]
  else [240 + v / 262144, 128 + v / 4096 % 64, 128 + v / 64 % 64, 128 + v % 64]
/-- Its units. -/
def uts (v : Nat) : List Nat := if v < 65536 then [v] else [55296 + (v - 65536) / 1024, 56320 + (v - 65536) % 1024]
def isB (l : List Nat) : Prop := ∀ x ∈ l, x < 256
def isU (l : List Nat) : Prop := ∀ x ∈ l, x < 65536

theorem hd_pos (l : List Nat) : 1 ≤ (hd l).2 := by
  unfold hd decodeN
  repeat' split
  all_goals simp
theorem hd_le4 (l : List Nat) : (hd l).2 ≤ 4 := by
  unfold hd decodeN
  repeat' split
  all_goals simp
theorem hd_le (l : List Nat) (h : l ≠ []) : (hd l).2 ≤ l.length := by
  have h1 : 1 ≤ l.length := by
    cases l with
    | nil => exact absurd rfl h
    | cons _ _ => simp
  unfold hd decodeN
  repeat' split
  all_goals simp only
  all_goals omega

theorem bts_len (v : Nat) : (bts v).length = if v < 128 then 1 else if v < 2048 then 2 else if v < 65536 then 3 else 4 := by
  unfold bts; repeat' split
  all_goals simp
theorem bts_B {v : Nat} (h : okV v) : isB (bts v) := by
  unfold okV at h
  unfold bts isB
  repeat' split
  all_goals (intro x hx; simp at hx; omega)
theorem uts_U {v : Nat} (h : okV v) : isU (uts v) := by
  unfold okV at h
  unfold uts isU
  repeat' split
  all_goals (intro x hx; simp at hx; omega)


theorem dN1 {n b0 b1 b2 b3 v : Nat} (hv : v < 128) (h0 : b0 = v) : decodeN n b0 b1 b2 b3 = (v, 1) := by
  subst h0
  unfold decodeN
  rw [if_pos hv]
theorem dN2 {n b0 b1 b2 b3 v : Nat} (h1 : 128 ≤ v) (h2 : v < 2048) (hn : 1 < n) (e0 : b0 = 192 + v / 64) (e1 : b1 = 128 + v % 64) : decodeN n b0 b1 b2 b3 = (v, 2) := by
  have f1 : ¬ b0 < 128 := by omega
  have f2 : b0 / 32 = 6 := by omega
  have f3 : b1 / 64 = 2 := by omega
  have f4 : b0 % 32 * 64 + b1 % 64 = v := by omega
  unfold decodeN
  rw [if_neg f1, if_pos ⟨f2, hn, f3⟩, f4, if_pos h1]
theorem dN3 {n b0 b1 b2 b3 v : Nat} (h1 : 2048 ≤ v) (h2 : v < 65536) (hv : okV v) (hn : 2 < n) (e0 : b0 = 224 + v / 4096) (e1 : b1 = 128 + v / 64 % 64) (e2 : b2 = 128 + v % 64) : decodeN n b0 b1 b2 b3 = (v, 3) := by
  have f1 : ¬ b0 < 128 := by omega
  have f2 : ¬ (b0 / 32 = 6 ∧ (1 < n ∧ b1 / 64 = 2)) := by omega
  have f3 : b0 / 16 = 14 := by omega
  have f4 : b1 / 64 = 2 := by omega
  have f5 : b2 / 64 = 2 := by omega
  have f6 : b0 % 16 * 4096 + b1 % 64 * 64 + b2 % 64 = v := by omega
  unfold decodeN
  rw [if_neg f1, if_neg f2, if_pos ⟨f3, ⟨by omega, f4⟩, hn, f5⟩, f6, if_pos ⟨h1, hv⟩]
theorem dN4 {n b0 b1 b2 b3 v : Nat} (h1 : 65536 ≤ v) (hv : okV v) (hn : 3 < n) (e0 : b0 = 240 + v / 262144) (e1 : b1 = 128 + v / 4096 % 64) (e2 : b2 = 128 + v / 64 % 64) (e3 : b3 = 128 + v % 64) : decodeN n b0 b1 b2 b3 = (v, 4) := by
  have hv' := hv
  unfold okV at hv'
  have f1 : ¬ b0 < 128 := by omega
  have f2 : ¬ (b0 / 32 = 6 ∧ (1 < n ∧ b1 / 64 = 2)) := by omega
  have f2' : ¬ (b0 / 16 = 14 ∧ (1 < n ∧ b1 / 64 = 2) ∧ (2 < n ∧ b2 / 64 = 2)) := by omega
  have f3 : b0 / 8 = 30 := by omega
  have f4 : b1 / 64 = 2 := by omega
  have f5 : b2 / 64 = 2 := by omega
  have f5' : b3 / 64 = 2 := by omega
  have f6 : b0 % 8 * 262144 + b1 % 64 * 4096 + b2 % 64 * 64 + b3 % 64 = v := by omega
  unfold decodeN
  rw [if_neg f1, if_neg f2, if_neg f2', if_pos ⟨f3, ⟨by omega, f4⟩, ⟨by omega, f5⟩, hn, f5'⟩, f6, if_pos ⟨h1, hv⟩]
/-- A character's bytes are read as it. -/
theorem hd_bts {v : Nat} (h : okV v) (r : List Nat) : hd (bts v ++ r) = (v, (bts v).length) := by
  rw [bts_len]
  unfold hd bts
  by_cases h1 : v < 128
  · rw [if_pos h1, if_pos h1]; exact dN1 h1 rfl
  rw [if_neg h1, if_neg h1]
  by_cases h2 : v < 2048
  · rw [if_pos h2, if_pos h2]; exact dN2 (by omega) h2 (by simp) rfl rfl
  rw [if_neg h2, if_neg h2]
  by_cases h3 : v < 65536
  · rw [if_pos h3, if_pos h3]; exact dN3 (by omega) h3 h (by simp) rfl rfl rfl
  rw [if_neg h3, if_neg h3]
  exact dN4 (by omega) h (by simp) rfl rfl rfl rfl
theorem bts_ok {v : Nat} (h : okV v) (r : List Nat) : bad (bts v ++ r) = false := by
  unfold bad
  rw [hd_bts h, bts_len]
  by_cases e : v = 65533
  · subst e; decide
  · simp [e]
def Four (n b0 b1 b2 b3 v k : Nat) : Prop :=
  (k = 1 ∧ v < 128 ∧ b0 = v) ∨ (k = 2 ∧ 128 ≤ v ∧ v < 2048 ∧ 1 < n ∧ b0 = 192 + v / 64 ∧ b1 = 128 + v % 64) ∨
  (k = 3 ∧ 2048 ≤ v ∧ v < 65536 ∧ okV v ∧ 2 < n ∧ b0 = 224 + v / 4096 ∧ b1 = 128 + v / 64 % 64 ∧ b2 = 128 + v % 64) ∨
  (k = 4 ∧ 65536 ≤ v ∧ okV v ∧ 3 < n ∧ b0 = 240 + v / 262144 ∧ b1 = 128 + v / 4096 % 64 ∧ b2 = 128 + v / 64 % 64 ∧ b3 = 128 + v % 64) ∨
  (v = 65533 ∧ k = 1)
theorem four (n b0 b1 b2 b3 : Nat) : Four n b0 b1 b2 b3 (decodeN n b0 b1 b2 b3).1 (decodeN n b0 b1 b2 b3).2 := by
  unfold Four okV decodeN
  split
  · exact .inl ⟨rfl, by simpa, rfl⟩
  · split
    · split
      · exact .inr (.inl ⟨rfl, by simpa, by dsimp only; omega, by omega, by dsimp only; omega, by dsimp only; omega⟩)
      · exact .inr (.inr (.inr (.inr ⟨rfl, rfl⟩)))
    · split
      · split
        · rename_i h
          exact .inr (.inr (.inl ⟨rfl, h.1, by dsimp only; omega, h.2, by omega, by dsimp only; omega, by dsimp only; omega, by dsimp only; omega⟩))
        · exact .inr (.inr (.inr (.inr ⟨rfl, rfl⟩)))
      · split
        · split
          · rename_i h
            exact .inr (.inr (.inr (.inl ⟨rfl, h.1, h.2, by omega, by dsimp only; omega, by dsimp only; omega, by dsimp only; omega, by dsimp only; omega⟩)))
          · exact .inr (.inr (.inr (.inr ⟨rfl, rfl⟩)))
        · exact .inr (.inr (.inr (.inr ⟨rfl, rfl⟩)))
theorem isB_getD {l : List Nat} (hl : isB l) (k : Nat) : l.getD k 0 < 256 := by
  rw [List.getD_eq_getElem?_getD]
  cases h : l[k]? with
  | none => simp
  | some x => exact hl x (List.mem_of_getElem? h)
theorem split1 {l : List Nat} (h : 0 < l.length) : l = l.getD 0 0 :: l.drop 1 := by
  match l, h with
  | a :: t, _ => rfl
theorem split2 {l : List Nat} (h : 1 < l.length) : l = l.getD 0 0 :: l.getD 1 0 :: l.drop 2 := by
  match l, h with
  | a :: b :: t, _ => rfl
theorem split3 {l : List Nat} (h : 2 < l.length) : l = l.getD 0 0 :: l.getD 1 0 :: l.getD 2 0 :: l.drop 3 := by
  match l, h with
  | a :: b :: c :: t, _ => rfl
theorem split4 {l : List Nat} (h : 3 < l.length) : l = l.getD 0 0 :: l.getD 1 0 :: l.getD 2 0 :: l.getD 3 0 :: l.drop 4 := by
  match l, h with
  | a :: b :: c :: d :: t, _ => rfl
/-- What is read as a character is its bytes. -/
theorem bts_hd {l : List Nat} (_hl : isB l) (h0 : l ≠ []) (h : bad l = false) : okV (hd l).1 ∧ (bts (hd l).1).length = (hd l).2 ∧ l = bts (hd l).1 ++ l.drop (hd l).2 := by
  have hp : 0 < l.length := List.length_pos_iff.2 h0
  have f := four l.length (l.getD 0 0) (l.getD 1 0) (l.getD 2 0) (l.getD 3 0)
  have e : decodeN l.length (l.getD 0 0) (l.getD 1 0) (l.getD 2 0) (l.getD 3 0) = hd l := rfl
  rw [e] at f
  unfold bad at h
  generalize (hd l).1 = v at f h
  generalize (hd l).2 = k at f h
  rw [bts_len]
  rcases f with ⟨rfl, hv, e0⟩ | ⟨rfl, hv, hv2, hn, e0, e1⟩ | ⟨rfl, hv, hv2, hok, hn, e0, e1, e2⟩ | ⟨rfl, hv, hok, hn, e0, e1, e2, e3⟩ | ⟨rfl, rfl⟩
  · refine ⟨by unfold okV; omega, by rw [if_pos hv], ?_⟩
    have := split1 hp
    unfold bts
    rw [if_pos hv, ← e0]
    exact this
  · refine ⟨by unfold okV; omega, by rw [if_neg (by omega), if_pos hv2], ?_⟩
    have := split2 hn
    unfold bts
    rw [if_neg (by omega), if_pos hv2, ← e0, ← e1]
    exact this
  · refine ⟨hok, by rw [if_neg (by omega), if_neg (by omega), if_pos hv2], ?_⟩
    have := split3 hn
    unfold bts
    rw [if_neg (by omega), if_neg (by omega), if_pos hv2, ← e0, ← e1, ← e2]
    exact this
  · refine ⟨hok, by rw [if_neg (by omega), if_neg (by omega), if_neg (by omega)], ?_⟩
    have := split4 hn
    unfold bts
    rw [if_neg (by omega), if_neg (by omega), if_neg (by omega), ← e0, ← e1, ← e2, ← e3]
    exact this
  · simp at h


/-- Bytes as units: the units up to the first that is no character; how many bytes were read; whether all were. -/
def deu (l : List Nat) : List Nat × Nat × Bool :=
  if l = [] then ([], 0, true) else if bad l then ([], 0, false)
  else (uts (hd l).1 ++ (deu (l.drop (hd l).2)).1, (hd l).2 + (deu (l.drop (hd l).2)).2.1, (deu (l.drop (hd l).2)).2.2)
termination_by l.length
decreasing_by all_goals (rename_i h _; have := hd_pos l; have : 0 < l.length := List.length_pos_iff.2 h; rw [List.length_drop]; omega)
theorem deu_nil : deu [] = ([], 0, true) := by rw [deu]; rfl
theorem deu_bad {l : List Nat} (h0 : l ≠ []) (h : bad l = true) : deu l = ([], 0, false) := by rw [deu, if_neg h0, if_pos h]
theorem deu_ok {l : List Nat} (h0 : l ≠ []) (h : bad l = false) : deu l = (uts (hd l).1 ++ (deu (l.drop (hd l).2)).1, (hd l).2 + (deu (l.drop (hd l).2)).2.1, (deu (l.drop (hd l).2)).2.2) := by
  rw [deu, if_neg h0, if_neg (by rw [h]; simp)]
theorem isB_drop {l : List Nat} (h : isB l) (k : Nat) : isB (l.drop k) := fun x hx => h x (List.mem_of_mem_drop hx)
theorem isB_take {l : List Nat} (h : isB l) (k : Nat) : isB (l.take k) := fun x hx => h x (List.mem_of_mem_take hx)
theorem isB_app {l r : List Nat} (h : isB l) (k : isB r) : isB (l ++ r) := fun x hx => by
  rcases List.mem_append.1 hx with h1 | h1
  · exact h x h1
  · exact k x h1

theorem deu_bts {v : Nat} (hv : okV v) (r : List Nat) : deu (bts v ++ r) = (uts v ++ (deu r).1, (bts v).length + (deu r).2.1, (deu r).2.2) := by
  have h0 : bts v ++ r ≠ [] := by
    intro e
    have : (bts v).length = 0 := by
      rw [List.append_eq_nil_iff] at e
      rw [e.1]; rfl
    rw [bts_len] at this
    (repeat' split at this) <;> omega
  rw [deu_ok h0 (bts_ok hv r), hd_bts hv]
  dsimp only
  rw [List.drop_left]
/-- By characters: what is well formed is the bytes of characters. -/
theorem deu_rec {P : List Nat → Prop} (h0 : P []) (h1 : ∀ v r, okV v → isB r → P r → P (bts v ++ r)) (h2 : ∀ l, l ≠ [] → isB l → bad l = true → P l) :
    ∀ (n : Nat) (l : List Nat), l.length ≤ n → isB l → P l
  | 0, l, hn, hl => by
    have : l = [] := List.eq_nil_of_length_eq_zero (by omega)
    subst this; exact h0
  | n + 1, l, hn, hl => by
    by_cases e : l = []
    · subst e; exact h0
    · cases hb : bad l
      · obtain ⟨a, b, c⟩ := bts_hd hl e hb
        rw [c]
        have hp := hd_pos l
        exact h1 _ _ a (isB_drop hl _) (deu_rec h0 h1 h2 n _ (by rw [List.length_drop]; have := List.length_pos_iff.2 e; omega) (isB_drop hl _))
      · exact h2 l e hl hb
theorem deu_ind {P : List Nat → Prop} {l : List Nat} (hl : isB l) (h0 : P []) (h1 : ∀ v r, okV v → isB r → P r → P (bts v ++ r)) (h2 : ∀ l, l ≠ [] → isB l → bad l = true → P l) : P l := deu_rec h0 h1 h2 l.length l (Nat.le_refl _) hl

theorem deu_le (l : List Nat) (hl : isB l) : (deu l).2.1 ≤ l.length ∧ ((deu l).2.2 = true → (deu l).2.1 = l.length) ∧ ((deu l).2.2 = false → (deu l).2.1 < l.length) := by
  refine deu_ind (P := fun l => (deu l).2.1 ≤ l.length ∧ ((deu l).2.2 = true → (deu l).2.1 = l.length) ∧ ((deu l).2.2 = false → (deu l).2.1 < l.length)) hl ?_ ?_ ?_
  · rw [deu_nil]; simp
  · intro v r hv hr h
    rw [deu_bts hv, List.length_append]
    dsimp only
    refine ⟨by omega, fun e => by have := h.2.1 e; omega, fun e => by have := h.2.2 e; omega⟩
  · intro l h0 hl hb
    rw [deu_bad h0 hb]
    have := List.length_pos_iff.2 h0
    simp; omega
theorem uts_len (v : Nat) : (uts v).length = if v < 65536 then 1 else 2 := by unfold uts; split <;> rfl
theorem uts_le (v : Nat) : (uts v).length ≤ (bts v).length := by
  rw [uts_len, bts_len]; (repeat' split) <;> omega
theorem deu_len {l : List Nat} (hl : isB l) : (deu l).1.length ≤ (deu l).2.1 := by
  refine deu_ind (P := fun l => (deu l).1.length ≤ (deu l).2.1) hl (by rw [deu_nil]; simp) ?_ ?_
  · intro v r hv hr h
    rw [deu_bts hv]
    dsimp only
    rw [List.length_append]
    have := uts_le v
    omega
  · intro l h0 hl hb
    rw [deu_bad h0 hb]; simp
theorem isU_app {l r : List Nat} (h : isU l) (k : isU r) : isU (l ++ r) := fun x hx => by
  rcases List.mem_append.1 hx with h1 | h1
  · exact h x h1
  · exact k x h1
theorem deu_U {l : List Nat} (hl : isB l) : isU (deu l).1 := by
  refine deu_ind (P := fun l => isU (deu l).1) hl (by rw [deu_nil]; intro x hx; simp at hx) ?_ ?_
  · intro v r hv hr h
    rw [deu_bts hv]
    exact isU_app (uts_U hv) h
  · intro l h0 hl hb
    rw [deu_bad h0 hb]; intro x hx; simp at hx

/-- Bytes one behind the other. -/
theorem deu_app {a : List Nat} (ha : isB a) (b : List Nat) : (deu a).2.2 = true → deu (a ++ b) = ((deu a).1 ++ (deu b).1, a.length + (deu b).2.1, (deu b).2.2) := by
  refine deu_ind (P := fun a => (deu a).2.2 = true → deu (a ++ b) = ((deu a).1 ++ (deu b).1, a.length + (deu b).2.1, (deu b).2.2)) ha ?_ ?_ ?_
  · intro _; simp [deu_nil]
  · intro v r hv hr h
    rw [deu_bts hv]
    intro e
    dsimp only at e
    rw [List.append_assoc, deu_bts hv, h e]
    simp [List.append_assoc, Nat.add_assoc]
  · intro l h0 hl hb e
    rw [deu_bad h0 hb] at e
    simp at e

/-- A beginning of a character's bytes, cut short, is no character. -/
theorem bad_cut {v k : Nat} (h0 : 0 < k) (hk : k < (bts v).length) : bad ((bts v).take k) = true := by
  rw [bts_len] at hk
  unfold bad hd bts
  by_cases h1 : v < 128
  · rw [if_pos h1] at hk; omega
  rw [if_neg h1] at hk ⊢
  by_cases h2 : v < 2048
  · rw [if_pos h2] at hk ⊢
    obtain rfl : k = 1 := by omega
    simp only [List.take_succ_cons, List.take_zero, List.length_cons, List.length_nil, List.getD_cons_zero, List.getD_cons_succ, List.getD_nil]
    unfold decodeN
    rw [if_neg (by omega), if_neg (by omega), if_neg (by omega), if_neg (by omega)]
    rfl
  rw [if_neg h2] at hk ⊢
  by_cases h3 : v < 65536
  · rw [if_pos h3] at hk ⊢
    match k, h0, hk with
    | 1, _, _ =>
      simp only [List.take_succ_cons, List.take_zero, List.length_cons, List.length_nil, List.getD_cons_zero, List.getD_cons_succ, List.getD_nil]
      unfold decodeN
      rw [if_neg (by omega), if_neg (by omega), if_neg (by omega), if_neg (by omega)]
      rfl
    | 2, _, _ =>
      simp only [List.take_succ_cons, List.take_zero, List.length_cons, List.length_nil, List.getD_cons_zero, List.getD_cons_succ, List.getD_nil]
      unfold decodeN
      rw [if_neg (by omega), if_neg (by omega), if_neg (by omega), if_neg (by omega)]
      rfl
  rw [if_neg h3] at hk ⊢
  match k, h0, hk with
  | 1, _, _ =>
    simp only [List.take_succ_cons, List.take_zero, List.length_cons, List.length_nil, List.getD_cons_zero, List.getD_cons_succ, List.getD_nil]
    unfold decodeN
    rw [if_neg (by omega), if_neg (by omega), if_neg (by omega), if_neg (by omega)]
    rfl
  | 2, _, _ =>
    simp only [List.take_succ_cons, List.take_zero, List.length_cons, List.length_nil, List.getD_cons_zero, List.getD_cons_succ, List.getD_nil]
    unfold decodeN
    rw [if_neg (by omega), if_neg (by omega), if_neg (by omega), if_neg (by omega)]
    rfl
  | 3, _, _ =>
    simp only [List.take_succ_cons, List.take_zero, List.length_cons, List.length_nil, List.getD_cons_zero, List.getD_cons_succ, List.getD_nil]
    unfold decodeN
    rw [if_neg (by omega), if_neg (by omega), if_neg (by omega), if_neg (by omega)]
    rfl
/-- Well formed bytes, cut off at a place. -/
def Cut (b : List Nat) (cut : Nat) : Prop :=
  ((deu (b.take cut)).2.2 = true ∧ ∃ t, (deu b).1 = (deu (b.take cut)).1 ++ t) ∨
  ((deu (b.take cut)).2.2 = false ∧ (deu (b.take cut)).2.1 < cut ∧ cut - (deu (b.take cut)).2.1 < 4 ∧ (deu (b.take (deu (b.take cut)).2.1)).2.2 = true ∧ ∃ t, (deu b).1 = (deu (b.take (deu (b.take cut)).2.1)).1 ++ t)
theorem cut_of {b : List Nat} (hb : isB b) : (deu b).2.2 = true → ∀ cut, cut ≤ b.length → Cut b cut := by
  refine deu_ind (P := fun b => (deu b).2.2 = true → ∀ cut, cut ≤ b.length → Cut b cut) hb ?_ ?_ ?_
  · intro _ cut hc
    left
    simp [deu_nil]
  · intro v r hv hr h
    rw [deu_bts hv]
    intro e cut hc
    dsimp only at e
    by_cases c0 : cut = 0
    · subst c0
      left
      simp [deu_nil]
    by_cases c1 : cut < (bts v).length
    · right
      have t1 : (bts v ++ r).take cut = (bts v).take cut := by rw [List.take_append, show cut - (bts v).length = 0 by omega]; simp
      have n1 : (bts v).take cut ≠ [] := by
        intro q
        have := congrArg List.length q
        rw [List.length_take, List.length_nil] at this
        omega
      rw [t1, deu_bad n1 (bad_cut (by omega) c1)]
      dsimp only
      have h4 : (bts v).length ≤ 4 := by rw [bts_len]; (repeat' split) <;> omega
      exact ⟨rfl, by omega, by omega, by simp [deu_nil], by simp [deu_nil]⟩
    · have t1 : ∀ k, (bts v ++ r).take ((bts v).length + k) = bts v ++ r.take k := fun k => by rw [List.take_append, List.take_of_length_le (by omega)]; simp
      obtain ⟨k, rfl⟩ : ∃ k, cut = (bts v).length + k := ⟨cut - (bts v).length, by omega⟩
      rw [List.length_append] at hc
      have hk := h e k (by omega)
      unfold Cut at hk ⊢
      rw [t1, deu_bts hv, deu_bts hv]
      dsimp only
      rcases hk with ⟨k1, t, k2⟩ | ⟨k1, k2, k3, k4, t, k5⟩
      · left
        exact ⟨k1, t, by rw [k2, List.append_assoc]⟩
      · right
        rw [t1, deu_bts hv]
        dsimp only
        exact ⟨k1, by omega, by omega, k4, t, by rw [k5, List.append_assoc]⟩
  · intro l h0 hl hb e
    rw [deu_bad h0 hb] at e
    simp at e


def hiU (u : Nat) : Bool := decide (55296 ≤ u) && decide (u < 56320)
def loU (u : Nat) : Bool := decide (56320 ≤ u) && decide (u < 57344)
def joinV (h l : Nat) : Nat := 65536 + (h - 55296) * 1024 + (l - 56320)
def enc : List Nat → Option (List Nat)
  | [] => some []
  | a :: r => if hiU a = false ∧ loU a = false then (enc r).map (bts a ++ ·)
    else match r with
      | c :: r' => if hiU a = true ∧ loU c = true then (enc r').map (bts (joinV a c) ++ ·) else none
      | [] => none
theorem enc_eq (a : Nat) (r : List Nat) : enc (a :: r) = if hiU a = false ∧ loU a = false then (enc r).map (bts a ++ ·)
    else match r with
      | c :: r' => if hiU a = true ∧ loU c = true then (enc r').map (bts (joinV a c) ++ ·) else none
      | [] => none := by cases r <;> rfl
theorem enc_plain {a : Nat} (h1 : hiU a = false) (h2 : loU a = false) (r : List Nat) : enc (a :: r) = (enc r).map (bts a ++ ·) := by
  rw [enc_eq, if_pos ⟨h1, h2⟩]
theorem enc_pair {a c : Nat} (h1 : hiU a = true) (h2 : loU c = true) (r : List Nat) : enc (a :: c :: r) = (enc r).map (bts (joinV a c) ++ ·) := by
  rw [enc_eq, if_neg (by rw [h1]; simp)]
  simp only
  rw [if_pos ⟨h1, h2⟩]
theorem enc_bad {a : Nat} {r : List Nat} (h : ¬ (hiU a = false ∧ loU a = false)) (k : ∀ c r', r = c :: r' → ¬ (hiU a = true ∧ loU c = true)) : enc (a :: r) = none := by
  cases r with
  | nil => rw [enc_eq, if_neg h]
  | cons c r' => rw [enc_eq, if_neg h]; simp only; rw [if_neg (k c r' rfl)]
theorem isU_cons {a : Nat} {r : List Nat} (h : isU (a :: r)) : a < 65536 ∧ isU r := ⟨h a (by simp), fun x hx => h x (List.mem_cons_of_mem _ hx)⟩
theorem ok_plain {a : Nat} (ha : a < 65536) (h1 : hiU a = false) (h2 : loU a = false) : okV a := by
  unfold okV; unfold hiU at h1; unfold loU at h2
  simp at h1 h2
  omega
theorem ok_join {a c : Nat} (h1 : hiU a = true) (h2 : loU c = true) : okV (joinV a c) ∧ 65536 ≤ joinV a c ∧ joinV a c < 1114112 := by
  unfold okV joinV; unfold hiU at h1; unfold loU at h2
  simp at h1 h2
  omega
theorem uts_plain {a : Nat} (ha : a < 65536) : uts a = [a] := by unfold uts; rw [if_pos ha]
theorem uts_join {a c : Nat} (h1 : hiU a = true) (h2 : loU c = true) : uts (joinV a c) = [a, c] := by
  have h := ok_join h1 h2
  unfold uts
  rw [if_neg (by omega)]
  unfold joinV; unfold hiU at h1; unfold loU at h2
  simp at h1 h2
  have e1 : 55296 + (65536 + (a - 55296) * 1024 + (c - 56320) - 65536) / 1024 = a := by omega
  have e2 : 56320 + (65536 + (a - 55296) * 1024 + (c - 56320) - 65536) % 1024 = c := by omega
  rw [e1, e2]
/-- What units are as bytes is read as them. -/
theorem deu_enc : ∀ (n : Nat) (u : List Nat), u.length ≤ n → isU u → ∀ g, enc u = some g → isB g ∧ deu g = (u, g.length, true) ∧ g.length ≤ 3 * u.length
  | 0, u, hn, _, g, h => by
    have : u = [] := List.eq_nil_of_length_eq_zero (by omega)
    subst this
    rw [enc] at h
    obtain rfl : [] = g := Option.some.inj h
    exact ⟨fun x hx => by simp at hx, by rw [deu_nil]; rfl, by simp⟩
  | n + 1, [], _, _, g, h => by
    rw [enc] at h
    obtain rfl : [] = g := Option.some.inj h
    exact ⟨fun x hx => by simp at hx, by rw [deu_nil]; rfl, by simp⟩
  | n + 1, a :: r, hn, hu, g, h => by
    obtain ⟨ha, hr⟩ := isU_cons hu
    rw [List.length_cons] at hn
    by_cases hp : hiU a = false ∧ loU a = false
    · rw [enc_plain hp.1 hp.2] at h
      obtain ⟨g', hg, rfl⟩ := Option.map_eq_some_iff.1 h
      obtain ⟨i1, i2, i3⟩ := deu_enc n r (by omega) hr g' hg
      have hv := ok_plain ha hp.1 hp.2
      refine ⟨isB_app (bts_B hv) i1, ?_, ?_⟩
      · rw [deu_bts hv, i2, uts_plain ha, List.length_append]; rfl
      · have hb := bts_len a
        rw [List.length_append, List.length_cons]
        (repeat' split at hb) <;> omega
    · cases r with
      | nil => rw [enc_bad hp (fun c r' e => by cases e)] at h; cases h
      | cons c r' =>
        by_cases hq : hiU a = true ∧ loU c = true
        · rw [enc_pair hq.1 hq.2] at h
          obtain ⟨g', hg, rfl⟩ := Option.map_eq_some_iff.1 h
          obtain ⟨hc, hr'⟩ := isU_cons hr
          rw [List.length_cons] at hn
          obtain ⟨i1, i2, i3⟩ := deu_enc n r' (by omega) hr' g' hg
          have hv := (ok_join hq.1 hq.2).1
          refine ⟨isB_app (bts_B hv) i1, ?_, ?_⟩
          · rw [deu_bts hv, i2, uts_join hq.1 hq.2, List.length_append]; rfl
          · have hb := bts_len (joinV a c)
            rw [List.length_append, List.length_cons, List.length_cons]
            (repeat' split at hb) <;> omega
        · rw [enc_bad hp (fun c' r'' e => by injection e with e1 e2; subst e1; exact hq)] at h; cases h
theorem enc_uts {v : Nat} (hv : okV v) (us : List Nat) : enc (uts v ++ us) = (enc us).map (bts v ++ ·) := by
  have hv' := hv
  unfold okV at hv'
  unfold uts
  by_cases h : v < 65536
  · rw [if_pos h]
    exact enc_plain (by unfold hiU; simp; omega) (by unfold loU; simp; omega) us
  · rw [if_neg h]
    have h1 : hiU (55296 + (v - 65536) / 1024) = true := by unfold hiU; simp; omega
    have h2 : loU (56320 + (v - 65536) % 1024) = true := by unfold loU; simp; omega
    rw [List.cons_append, List.cons_append, List.nil_append, enc_pair h1 h2]
    have e : joinV (55296 + (v - 65536) / 1024) (56320 + (v - 65536) % 1024) = v := by unfold joinV; omega
    rw [e]
/-- What bytes are as units is they, as bytes. -/
theorem enc_deu {b : List Nat} (hb : isB b) : (deu b).2.2 = true → enc (deu b).1 = some b := by
  refine deu_ind (P := fun b => (deu b).2.2 = true → enc (deu b).1 = some b) hb ?_ ?_ ?_
  · intro _; rw [deu_nil]; rfl
  · intro v r hv hr h
    rw [deu_bts hv]
    intro e
    dsimp only at e ⊢
    rw [enc_uts hv, h e]
    rfl
  · intro l h0 hl hb e
    rw [deu_bad h0 hb] at e
    simp at e
end Go.Proofs.YtakahpbondaidaaGreatDoor
namespace Go.Proofs.YtakahpbondaidaaGreatDoor
open Go.RowKit

/-- What a world has grown by: new blocks; the count of draws. -/
structure More where
  blocks : List Obj
  draws : Nat
instance : Inhabited More := ⟨⟨[], 0⟩⟩
/-- 'w' with the blocks x.blocks behind its own, the count of draws at x.draws. -/
def plus (w : World) (x : More) : World := { w with heap := w.heap ++ x.blocks.toArray, drawn := x.draws }

section
variable (w : World) (x y : More)

@[go_sem] theorem size_plus : (plus w x).heap.size = w.heap.size + x.blocks.length := by simp [plus]

theorem heap_plus_lt {k : Nat} (h : k < w.heap.size) : (plus w x).heap[k]? = w.heap[k]? := by
  simp only [plus]
  rw [Array.getElem?_append_left h]

theorem cell?_plus (n i : Nat) (hn : n < w.heap.size) : (plus w x).cell? ⟨n, i, none⟩ = w.cell? ⟨n, i, none⟩ := World.cell?_of_block (w := w) (heap_plus_lt w x hn)
theorem frozen?_plus (n i : Nat) (hn : n < w.heap.size) : (plus w x).frozen? ⟨n, i, none⟩ = w.frozen? ⟨n, i, none⟩ := World.frozen?_of_block (w := w) (heap_plus_lt w x hn)

theorem setCell_plus (n i : Nat) (v : Value) (hn : n < w.heap.size) : (plus w x).setCell ⟨n, i, none⟩ v = plus (w.setCell ⟨n, i, none⟩ v) x := by
  unfold World.setCell plus
  congr 1
  apply Array.ext_getElem?
  intro k
  by_cases hk : k < w.heap.size
  · rw [Array.getElem?_modify, Array.getElem?_append_left hk, Array.getElem?_append_left (by simpa using hk), Array.getElem?_modify]
  · rw [Array.getElem?_modify]
    have hne : n ≠ k := by omega
    simp only [hne, if_false]
    rw [Array.getElem?_append_right (by omega), Array.getElem?_append_right (by simpa using hk)]
    simp

@[go_sem] theorem plus_drew : plus w.drew x = plus w x := rfl
@[go_sem] theorem plus_drewN (n : Nat) : plus (w.drewN n) x = plus w x := rfl

theorem plus_plus : plus (plus w x) y = plus w ⟨x.blocks ++ y.blocks, y.draws⟩ := by
  simp [plus, Array.append_assoc]

theorem plus_nil : plus w ⟨[], w.drawn⟩ = w := by simp [plus]
end

/-- Block n is there in w. -/
class Old (n : Nat) (w : World) : Prop where lt : n < w.heap.size
/-- n is how many blocks w has. -/
class AtEnd (n : Nat) (w : World) : Prop where eq : n = w.heap.size

instance (w : World) : AtEnd w.heap.size w := ⟨rfl⟩
instance (n : Nat) (w : World) (o : Obj) [h : AtEnd n w] : AtEnd (n + 1) (w.alloc o) := ⟨by rw [World.size_alloc, h.eq]⟩
instance (n : Nat) (w : World) (x : More) [h : AtEnd n w] : AtEnd (n + x.blocks.length) (plus w x) := ⟨by rw [size_plus, h.eq]⟩
instance (n : Nat) (w : World) [h : AtEnd n w] : AtEnd n w.drew := ⟨h.eq⟩
instance (n m : Nat) (w : World) [h : AtEnd n w] : AtEnd n (w.drewN m) := ⟨h.eq⟩
instance (n : Nat) (w : World) (o : Obj) [h : AtEnd n w] : Old n (w.alloc o) := ⟨by rw [World.size_alloc, h.eq]; exact Nat.lt_succ_self _⟩
instance (n : Nat) (w : World) (o : Obj) [h : Old n w] : Old n (w.alloc o) := ⟨by rw [World.size_alloc]; exact Nat.lt_succ_of_lt h.lt⟩
instance (n : Nat) (w : World) (x : More) [h : Old n w] : Old n (plus w x) := ⟨by rw [size_plus]; exact Nat.lt_add_right _ h.lt⟩
instance (n : Nat) (w : World) [h : Old n w] : Old n w.drew := ⟨h.lt⟩
instance (n m : Nat) (w : World) [h : Old n w] : Old n (w.drewN m) := ⟨h.lt⟩
instance (n : Nat) (w : World) (a : Addr) (v : Value) [h : Old n w] : Old n (w.setCell a v) := ⟨by rw [World.size_setCell]; exact h.lt⟩

section
variable (w : World) (x : More) (o : Obj) (n i : Nat) (v : Value) [h : Old n w]
@[go_sem] theorem cell?_plus' : (plus w x).cell? ⟨n, i, none⟩ = w.cell? ⟨n, i, none⟩ := cell?_plus w x n i h.lt
@[go_sem] theorem frozen?_plus' : (plus w x).frozen? ⟨n, i, none⟩ = w.frozen? ⟨n, i, none⟩ := frozen?_plus w x n i h.lt
@[go_sem] theorem setCell_plus' : (plus w x).setCell ⟨n, i, none⟩ v = plus (w.setCell ⟨n, i, none⟩ v) x := setCell_plus w x n i v h.lt
@[go_sem] theorem cell?_alloc' : (w.alloc o).cell? ⟨n, i, none⟩ = w.cell? ⟨n, i, none⟩ := World.cell?_alloc_past o n i h.lt
@[go_sem] theorem frozen?_alloc' : (w.alloc o).frozen? ⟨n, i, none⟩ = w.frozen? ⟨n, i, none⟩ := World.frozen?_alloc_past o n i h.lt
@[go_sem] theorem setCell_alloc' : (w.alloc o).setCell ⟨n, i, none⟩ v = (w.setCell ⟨n, i, none⟩ v).alloc o := World.setCell_alloc_past o n i v h.lt
end
section
variable (w : World) (c : Array Value) (t : TypeId) (n i : Nat) (v : Value) [h : AtEnd n w]
@[go_sem] theorem cell?_alloc_end : (w.alloc (.cells c t)).cell? ⟨n, i, none⟩ = c[i]? := World.cell?_alloc_at c t n i h.eq
@[go_sem] theorem frozen?_alloc_end : (w.alloc (.cells c t)).frozen? ⟨n, i, none⟩ = false := World.frozen?_alloc_at c t n i h.eq
@[go_sem] theorem setCell_alloc_end : (w.alloc (.cells c t)).setCell ⟨n, i, none⟩ v = w.alloc (.cells (c.setIfInBounds i v) t) := World.setCell_alloc_at c t n i v h.eq
end

/-- w' is w, grown. -/
def Plus (w w' : World) : Prop := ∃ x, w' = plus w x
theorem Plus.refl (w : World) : Plus w w := ⟨_, (plus_nil w).symm⟩
theorem Plus.plus {w w' : World} (h : Plus w w') (x : More) : Plus w (plus w' x) := by
  obtain ⟨y, rfl⟩ := h
  exact ⟨_, plus_plus w y x⟩
theorem Plus.trans {a b c : World} (h : Plus a b) (k : Plus b c) : Plus a c := by
  obtain ⟨y, rfl⟩ := k
  exact h.plus y
theorem Plus.below {w w' : World} (h : Plus w w') : Below w.heap.size w w' := by
  obtain ⟨x, rfl⟩ := h
  exact ⟨rfl, rfl, rfl, by rw [size_plus]; omega, fun k hk => heap_plus_lt w x hk⟩
theorem Plus.of_below {w w' : World} (h : Below w.heap.size w w') : Plus w w' := by
  obtain ⟨ho, ht, hu, hs, hb⟩ := h
  have hh : w'.heap = w.heap ++ (w'.heap.toList.drop w.heap.size).toArray := by
    apply Array.ext_getElem?
    intro k
    by_cases hk : k < w.heap.size
    · rw [Array.getElem?_append_left hk, hb k hk]
    · rw [Array.getElem?_append_right (by omega)]
      simp
      congr 1
      omega
  refine ⟨⟨w'.heap.toList.drop w.heap.size, w'.drawn⟩, ?_⟩
  unfold YtakahpbondaidaaGreatDoor.plus
  rw [← hh]
  obtain ⟨heap, tape, drawn, os, output⟩ := w'
  simp only at ho ht hu
  subst ho ht hu
  rfl
theorem Plus.alloc {w w' : World} (h : Plus w w') (o : Obj) : Plus w (w'.alloc o) :=
  h.trans (.of_below ((Below.refl _ _).alloc (Nat.le_refl _) o))
theorem Plus.drew {w w' : World} (h : Plus w w') : Plus w w'.drew :=
  h.trans (.of_below ((Below.refl _ _).drew))
theorem Plus.drewN {w w' : World} (h : Plus w w') (n : Nat) : Plus w (w'.drewN n) :=
  h.trans (.of_below (below_drewN (Below.refl _ _) n))

theorem Plus.is {w : World} (x : More) : Plus w (YtakahpbondaidaaGreatDoor.plus w x) := ⟨x, rfl⟩

/-- A region that draws its order, whose operations only read and whose callees leave a world that has grown: one walk in the order of the text. -/
theorem wp_region_plus {P : Program} {id : Nat} {Q : Exit → Act → World → Prop} {a : Act} {w : World} {l : List Oper} (hm : P.follows .mixedOrders = true) (hB : Region.lexB .any l.toArray = true)
    (h : wpQuiet P l.toArray (fun w' => ∃ x, w' = YtakahpbondaidaaGreatDoor.plus w x) (fun a' => ∀ w', (∃ x, w' = YtakahpbondaidaaGreatDoor.plus w x) → Q .normal a' w') l a) : (Code.region id l.toArray true).wp P Q a w :=
  wp_region_quiet (C := fun w' => ∃ x, w' = YtakahpbondaidaaGreatDoor.plus w x) hm hB ⟨⟨[], w.drawn + 1⟩, by simp [YtakahpbondaidaaGreatDoor.plus]⟩ (by simpa using h)

theorem calls_plus {P : Program} {f : FuncId} {args : Array Value} {w : World} {x : More} {v : Value}
    (h : Calls P f args (YtakahpbondaidaaGreatDoor.plus w x) fun e w' => e = .returned v ∧ Plus (YtakahpbondaidaaGreatDoor.plus w x) w') : Calls P f args (YtakahpbondaidaaGreatDoor.plus w x) fun e w'' => e = .returned v ∧ ∃ y, w'' = YtakahpbondaidaaGreatDoor.plus w y :=
  h.mono fun _ _ ⟨he, hp⟩ => ⟨he, (Plus.is x).trans hp⟩

end Go.Proofs.YtakahpbondaidaaGreatDoor
namespace Go.Proofs.YtakahpbondaidaaGreatDoor
open Go.RowKit

theorem block_of_add (a : Addr) (n : Nat) : (a.add n).block = a.block := by unfold Addr.add; split <;> rfl
theorem add_addr (g o j : Nat) : (⟨g, o, none⟩ : Addr).add j = ⟨g, o + j, none⟩ := by unfold Addr.add; split <;> simp_all
theorem zero_add_addr (g j : Nat) : (⟨g, 0, none⟩ : Addr).add j = ⟨g, j, none⟩ := by unfold Addr.add; split <;> simp_all
/-- The cells from g, o on read as the numbers xs. -/
def At (k : IntKind) (w : World) (g o : Nat) (xs : List Nat) : Prop := ∀ j, j < xs.length → w.cell? ⟨g, o + j, none⟩ = some (.int k ((xs.getD j 0 : Nat) : Int))
/-- The slice at A reads as the numbers xs. -/
def Rd (k : IntKind) (w : World) (A : Option Addr) (xs : List Nat) : Prop := 0 < xs.length → ∃ g o, A = some ⟨g, o, none⟩ ∧ g < w.heap.size ∧ At k w g o xs
section
variable {w w' : World} {A : Option Addr} {xs : List Nat} {g o : Nat} {k : IntKind}
theorem At.keep (h : At k w g o xs) (hk : w'.heap[g]? = w.heap[g]?) : At k w' g o xs := fun j hj => (World.cell?_of_block (w := w) hk).trans (h j hj)
theorem At.below {B : Nat} (h : At k w g o xs) (hb : Below B w w') (hg : g < B) : At k w' g o xs := h.keep (hb.block g hg)
theorem At.plus (h : At k w g o xs) (hg : g < w.heap.size) (hp : Plus w w') : At k w' g o xs := h.below hp.below hg
theorem At.drew (h : At k w g o xs) : At k w.drew g o xs := h
theorem getD_drop (xs : List Nat) (n j : Nat) : (xs.drop n).getD j 0 = xs.getD (n + j) 0 := by
  rw [List.getD_eq_getElem?_getD, List.getD_eq_getElem?_getD, List.getElem?_drop]
theorem At.drop (h : At k w g o xs) (n : Nat) : At k w g (o + n) (xs.drop n) := fun j hj => by
  rw [List.length_drop] at hj
  rw [getD_drop, Nat.add_assoc]
  exact h (n + j) (by omega)
theorem getD_take {xs : List Nat} {n j : Nat} (h : j < n) : (xs.take n).getD j 0 = xs.getD j 0 := by
  rw [List.getD_eq_getElem?_getD, List.getD_eq_getElem?_getD, List.getElem?_take, if_pos h]
theorem At.take (h : At k w g o xs) (n : Nat) : At k w g o (xs.take n) := fun j hj => by
  rw [List.length_take] at hj
  rw [getD_take (by omega)]
  exact h j (by omega)
theorem getD_mem {xs : List Nat} {j : Nat} (h : j < xs.length) : xs.getD j 0 ∈ xs := by
  rw [List.getD_eq_getElem?_getD, List.getElem?_eq_getElem h]
  exact List.getElem_mem h
theorem Rd.nil : Rd k w A [] := fun h => absurd h (by simp)
theorem Rd.keep (h : Rd k w A xs) (hs : w.heap.size ≤ w'.heap.size) (hk : ∀ b, A.map (·.block) = some b → b < w.heap.size → w'.heap[b]? = w.heap[b]?) : Rd k w' A xs := fun h0 => by
  obtain ⟨g, o, rfl, hg, hc⟩ := h h0
  exact ⟨g, o, rfl, by omega, hc.keep (hk g rfl hg)⟩
theorem Rd.below (h : Rd k w A xs) (hb : Below w.heap.size w w') : Rd k w' A xs := h.keep hb.size fun b _ hk => hb.block b hk
theorem Rd.plus (h : Rd k w A xs) (hp : Plus w w') : Rd k w' A xs := h.below hp.below
theorem Rd.drew (h : Rd k w A xs) : Rd k w.drew A xs := h
theorem Rd.alloc (h : Rd k w A xs) (o : Obj) : Rd k (w.alloc o) A xs := h.keep (by simp) fun b _ hk => Below.heap_alloc _ _ _ hk
theorem Rd.grown (h : Rd k w A xs) {row : Option Nat} (hg : w.grownBy w' row) (hr : ∀ ad, A = some ad → some ad.block ≠ row) : Rd k w' A xs :=
  h.keep hg.size fun b hk hlt => hg.block b hlt (by
    cases A with
    | none => simp at hk
    | some ad => simp at hk; subst hk; exact hr ad rfl)
theorem Rd.at_ (h : Rd k w A xs) {j : Nat} (hj : j < xs.length) : ∃ g o, A = some ⟨g, o, none⟩ ∧ g < w.heap.size ∧ At k w g o xs := h (by omega)
theorem Rd.take (h : Rd k w A xs) (n : Nat) : Rd k w A (xs.take n) := fun h0 => by
  rw [List.length_take] at h0
  obtain ⟨g, o, e, hg, hc⟩ := h (by omega)
  exact ⟨g, o, e, hg, hc.take n⟩
end
/-- An argument: its numbers lie in memory, each below K. -/
structure Ar (k : IntKind) (K : Nat) (w : World) (A : Option Addr) (xs : List Nat) (n c : Nat) : Prop where
  rd : Rd k w A xs
  len : n = xs.length
  cap : n ≤ c
  max : c ≤ 9223372036854775807
  bd : ∀ x ∈ xs, x < K
section
variable {w w' : World} {A : Option Addr} {xs : List Nat} {n c K : Nat} {k : IntKind}
theorem Ar.plus (h : Ar k K w A xs n c) (hp : Plus w w') : Ar k K w' A xs n c := ⟨h.rd.plus hp, h.len, h.cap, h.max, h.bd⟩
theorem Ar.drew (h : Ar k K w A xs n c) : Ar k K w.drew A xs n c := ⟨h.rd.drew, h.len, h.cap, h.max, h.bd⟩
theorem Ar.getD_lt (h : Ar k K w A xs n c) (h0 : 0 < K) (j : Nat) : xs.getD j 0 < K := by
  by_cases hj : j < xs.length
  · exact h.bd _ (getD_mem hj)
  · rw [List.getD_eq_getElem?_getD, List.getElem?_eq_none (by omega)]; exact h0
end

/-- Block g holds the numbers xs, and perhaps more. -/
def Own (k : IntKind) (w : World) (g : Nat) (xs : List Nat) : Prop :=
  ∃ cur e, w.heap[g]? = some (.cells cur e (0, 0)) ∧ ∀ j, j < xs.length → cur[j]? = some (.int k ((xs.getD j 0 : Nat) : Int))
section
variable {w w' : World} {xs : List Nat} {g : Nat} {k : IntKind}
theorem Own.lt (h : Own k w g xs) : g < w.heap.size := by
  obtain ⟨cur, e, hh, _⟩ := h
  exact (Array.getElem?_eq_some_iff.1 hh).1
theorem Own.cell (h : Own k w g xs) {j : Nat} (hj : j < xs.length) : w.cell? ⟨g, j, none⟩ = some (.int k ((xs.getD j 0 : Nat) : Int)) := by
  obtain ⟨cur, e, hh, hc⟩ := h
  rw [cell_of_row w g j cur e (0, 0) hh]
  exact hc j hj
theorem Own.frozen (h : Own k w g xs) (j : Nat) : w.frozen? ⟨g, j, none⟩ = false := by
  obtain ⟨cur, e, hh, hc⟩ := h
  simp [World.frozen?, hh]
theorem Own.rd (h : Own k w g xs) : Rd k w (some ⟨g, 0, none⟩) xs := fun _ => ⟨g, 0, rfl, h.lt, fun j hj => by rw [Nat.zero_add]; exact h.cell hj⟩
theorem Own.block (h : Own k w g xs) (hk : w'.heap[g]? = w.heap[g]?) : Own k w' g xs := by
  obtain ⟨cur, e, hh, hc⟩ := h
  exact ⟨cur, e, hk.trans hh, hc⟩
theorem Own.below {B : Nat} (h : Own k w g xs) (hb : Below B w w') (hg : g < B) : Own k w' g xs := h.block (hb.block g hg)
theorem Own.alloc (h : Own k w g xs) (o : Obj) : Own k (w.alloc o) g xs := h.block (Below.heap_alloc _ _ _ h.lt)
theorem Own.set (h : Own k w g xs) {j v : Nat} (hj : j < xs.length) : Own k (w.setCell ⟨g, j, none⟩ (.int k v)) g (xs.set j v) := by
  obtain ⟨cur, e, hh, hc⟩ := h
  refine ⟨cur.setIfInBounds j (.int k v), e, ?_, fun i hi => ?_⟩
  · simp [World.setCell, Array.getElem?_modify, hh]
  · rw [List.length_set] at hi
    rw [Array.getElem?_setIfInBounds]
    by_cases hij : j = i
    · subst hij
      have hlt : j < cur.size := (Array.getElem?_eq_some_iff.1 (hc j hj)).1
      rw [if_pos rfl, if_pos hlt]
      rw [List.getD_eq_getElem?_getD, List.getElem?_set_self hj]
      rfl
    · rw [if_neg hij, hc i hi]
      rw [List.getD_eq_getElem?_getD, List.getD_eq_getElem?_getD, List.getElem?_set_ne hij]
/-- New zeros. -/
theorem Own.zeros (k : IntKind) (w : World) (n : Nat) (t : TypeId) (cs : Array Value) (hc : cs = Array.replicate n (.int k 0)) : Own k (w.alloc (.cells cs t)) w.heap.size (List.replicate n 0) := by
  subst hc
  refine ⟨_, t, heap_alloc_new w _, fun j hj => ?_⟩
  simp at hj
  rw [Array.getElem?_replicate, if_pos hj, List.getD_eq_getElem?_getD, List.getElem?_replicate, if_pos hj]
  rfl
end
/-- Numbers as cells. -/
def vals (k : IntKind) (xs : List Nat) : List Value := xs.map fun (x : Nat) => .int k (x : Int)
theorem vals_app (k : IntKind) (xs ys : List Nat) : vals k (xs ++ ys) = vals k xs ++ vals k ys := List.map_append
theorem vals_len (k : IntKind) (xs : List Nat) : (vals k xs).length = xs.length := List.length_map _
/-- A row that the call made, read as a slice. -/
theorem rd_of_own {k : IntKind} {w : World} {b e : Nat} {v : Value} {xs : List Nat} (h : w.ownsRow b e 1 v xs.length (vals k xs)) : ∃ A c, v = .slice A xs.length c ∧ xs.length ≤ c ∧ c ≤ 9223372036854775807 ∧ Rd k w A xs := by
  rcases h.2 with ⟨rfl, h0⟩ | ⟨g, cap, cur, rfl, hb, hg, hl, hm, hs, ht⟩
  · have : xs = [] := List.eq_nil_of_length_eq_zero h0
    subst this
    exact ⟨none, 0, rfl, Nat.le_refl _, by omega, Rd.nil⟩
  · refine ⟨some ⟨g, 0, none⟩, cap, rfl, hl, by unfold maxLen at hm; exact hm, fun h0 => ⟨g, 0, rfl, (Array.getElem?_eq_some_iff.1 hg).1, fun j hj => ?_⟩⟩
    rw [Nat.zero_add, cell_of_row w g j cur e (0, 0) hg]
    have e1 : cur[j]? = cur.toList[j]? := by simp
    have e2 : (cur.toList.take (xs.length * 1))[j]? = cur.toList[j]? := by rw [List.getElem?_take, if_pos (by omega)]
    rw [e1, ← e2, ht]
    unfold vals
    rw [List.getElem?_map, List.getElem?_eq_getElem hj, List.getD_eq_getElem?_getD, List.getElem?_eq_getElem hj]
    rfl
end Go.Proofs.YtakahpbondaidaaGreatDoor
