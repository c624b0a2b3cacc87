/- Limbs of 32 bits, numbers of them, their decimal digits: the plain facts. -/
import Derived.WalkKit
import Derived.Deep.Draws
import Derived.Deep.Quiet
import Derived.WalkSmall
import Derived.WalkSpells
import Derived.WalkLawsBesides
import Derived.Handy
import Derived.Deep.RegionHeld3
import Derived.Deep.DeepCutAuto
import Derived.Deep.QuietTactic
import Derived.BigQuiet
import Derived.Lib.Hide
import Derived.KernelRfl
import Derived.WalkMore
import Derived.Deep.LoopGhost
import Derived.Deep.OwnRows
import Derived.Test.YtakahpbondaidaaGreatDoorProg
import Derived.Test.YtakahpbondaidaaGreatDoorPZA
namespace Go.Proofs.YtakahpbondaidaaGreatDoor.Bg
def B : Nat := 4294967296
theorem B_eq : B = 4294967296 := rfl
theorem B_pos : 0 < B := by decide

/-- The number of limbs, the least first. -/
def val : List Nat → Nat
  | [] => 0
  | x :: xs => x + B * val xs

/-- The limbs of a number. -/
def dig (n : Nat) : List Nat := if _h : n = 0 then [] else n % B :: dig (n / B)
termination_by n
decreasing_by exact Nat.div_lt_self (Nat.pos_of_ne_zero (by assumption)) (by decide)

def okL (xs : List Nat) : Prop := ∀ x ∈ xs, x < B

theorem okL_nil : okL [] := fun _ h => by cases h
theorem okL.head {x : Nat} {xs : List Nat} (h : okL (x :: xs)) : x < B := h x (by simp)
theorem okL.tail {x : Nat} {xs : List Nat} (h : okL (x :: xs)) : okL xs := fun y hy => h y (by simp [hy])
theorem okL.cons {x : Nat} {xs : List Nat} (h : x < B) (k : okL xs) : okL (x :: xs) := fun y hy => by
  rcases List.mem_cons.1 hy with rfl | hy
  · exact h
  · exact k y hy
theorem okL.take {xs : List Nat} (h : okL xs) (k : Nat) : okL (xs.take k) := fun x hx => h x (List.mem_of_mem_take hx)
theorem okL.append {xs ys : List Nat} (h : okL xs) (k : okL ys) : okL (xs ++ ys) := fun x hx => by
  rcases List.mem_append.1 hx with hx | hx
  · exact h x hx
  · exact k x hx
theorem okL.replicate (n : Nat) : okL (List.replicate n 0) := fun x hx => by
  rw [(List.mem_replicate.1 hx).2]; exact B_pos

theorem val_cons (x : Nat) (xs : List Nat) : val (x :: xs) = x + B * val xs := rfl
theorem val_append (xs ys : List Nat) : val (xs ++ ys) = val xs + B ^ xs.length * val ys := by
  induction xs with
  | nil => simp [val]
  | cons x xs ih =>
    simp only [List.cons_append, val_cons, ih, List.length_cons, Nat.pow_succ, Nat.mul_add]
    rw [Nat.mul_comm (B ^ xs.length) B, Nat.mul_assoc]
    omega
theorem val_snoc (xs : List Nat) (x : Nat) : val (xs ++ [x]) = val xs + B ^ xs.length * x := by
  rw [val_append]; simp [val]
theorem val_zeros (n : Nat) : val (List.replicate n 0) = 0 := by
  induction n with
  | zero => rfl
  | succ n ih => rw [List.replicate_succ, val_cons, ih]; rfl
theorem val_lt {xs : List Nat} (h : okL xs) : val xs < B ^ xs.length := by
  induction xs with
  | nil => simp [val]
  | cons x xs ih =>
    have h1 := ih h.tail
    have h2 := h.head
    rw [val_cons, List.length_cons, Nat.pow_succ]
    have : B * val xs + B ≤ B ^ xs.length * B := by
      rw [Nat.mul_comm (B ^ xs.length) B, ← Nat.mul_succ]
      exact Nat.mul_le_mul_left _ h1
    omega

theorem dig_zero : dig 0 = [] := by rw [dig]; rfl
theorem dig_pos {n : Nat} (h : n ≠ 0) : dig n = n % B :: dig (n / B) := by rw [dig]; rw [dif_neg h]

theorem okL_dig (n : Nat) : okL (dig n) := by
  induction n using Nat.strongRecOn with
  | _ n ih =>
    by_cases h : n = 0
    · subst h; rw [dig_zero]; exact okL_nil
    · rw [dig_pos h]
      exact (okL.cons (Nat.mod_lt _ B_pos) (ih _ (Nat.div_lt_self (Nat.pos_of_ne_zero h) (by decide))))
theorem val_dig (n : Nat) : val (dig n) = n := by
  induction n using Nat.strongRecOn with
  | _ n ih =>
    by_cases h : n = 0
    · subst h; rw [dig_zero]; rfl
    · rw [dig_pos h, val_cons, ih _ (Nat.div_lt_self (Nat.pos_of_ne_zero h) (by decide))]
      exact Nat.mod_add_div n B
theorem dig_inj {a b : Nat} (h : dig a = dig b) : a = b := by rw [← val_dig a, h, val_dig]

/-- No zero at the end. -/
def topOk (xs : List Nat) : Prop := ∀ x, xs.getLast? = some x → x ≠ 0
theorem topOk_nil : topOk [] := fun x h => by simp at h
theorem topOk.tail {x : Nat} {xs : List Nat} (h : topOk (x :: xs)) : topOk xs := fun y hy => h y (by
  cases xs with
  | nil => simp at hy
  | cons z zs => rw [List.getLast?_cons_cons]; exact hy)
theorem val_zero_top {xs : List Nat} (h : topOk xs) (h0 : val xs = 0) : xs = [] := by
  induction xs with
  | nil => rfl
  | cons x xs ih =>
    rw [val_cons] at h0
    have hx : x = 0 := by omega
    have hv : val xs = 0 := by
      rcases Nat.eq_zero_or_pos (val xs) with hz | hz
      · exact hz
      · have : 0 < B * val xs := Nat.mul_pos B_pos hz
        omega
    have := ih h.tail hv
    subst this
    exact absurd hx (h x (by simp))
theorem dig_val {xs : List Nat} (h : okL xs) (ht : topOk xs) : dig (val xs) = xs := by
  induction xs with
  | nil => exact dig_zero
  | cons x xs ih =>
    have hne : val (x :: xs) ≠ 0 := fun h0 => by have := val_zero_top ht h0; cases this
    rw [dig_pos hne, val_cons]
    have h1 : (x + B * val xs) % B = x := by rw [Nat.add_mul_mod_self_left]; exact Nat.mod_eq_of_lt h.head
    have h2 : (x + B * val xs) / B = val xs := by rw [Nat.add_mul_div_left _ _ B_pos, Nat.div_eq_of_lt h.head, Nat.zero_add]
    rw [h1, h2, ih h.tail ht.tail]
theorem dig_len_le {n k : Nat} (h : n < B ^ k) : (dig n).length ≤ k := by
  induction k generalizing n with
  | zero => have : n = 0 := by simpa using h
            subst this; rw [dig_zero]; simp
  | succ k ih =>
    by_cases h0 : n = 0
    · subst h0; rw [dig_zero]; simp
    · rw [dig_pos h0, List.length_cons]
      have : n / B < B ^ k := by rw [Nat.div_lt_iff_lt_mul B_pos]; rwa [Nat.pow_succ] at h
      have := ih this
      omega
theorem lt_of_dig_len {n k : Nat} (h : (dig n).length ≤ k) : n < B ^ k := by
  have h1 := val_lt (okL_dig n)
  rw [val_dig] at h1
  exact Nat.lt_of_lt_of_le h1 (Nat.pow_le_pow_right B_pos h)
theorem dig_topOk (n : Nat) : topOk (dig n) := by
  induction n using Nat.strongRecOn with
  | _ n ih =>
    by_cases h : n = 0
    · subst h; rw [dig_zero]; exact topOk_nil
    · have hlt := Nat.div_lt_self (Nat.pos_of_ne_zero h) (show 1 < B by decide)
      rw [dig_pos h]
      intro x hx
      by_cases h2 : n / B = 0
      · rw [h2, dig_zero] at hx
        simp at hx
        subst hx
        rw [Nat.div_eq_zero_iff] at h2
        rcases h2 with h2 | h2
        · exact absurd h2 (by decide)
        · rw [Nat.mod_eq_of_lt h2]; exact h
      · have hd := dig_pos h2
        rw [hd, List.getLast?_cons_cons, ← hd] at hx
        exact ih _ hlt x hx

theorem take_snoc' {xs : List Nat} {k : Nat} (h : k < xs.length) : xs.take (k + 1) = xs.take k ++ [xs[k]] := by
  rw [List.take_succ_eq_append_getElem h]

/-- The limb at i, zero behind the end. -/
def lim (xs : List Nat) (i : Nat) : Nat := xs.getD i 0
theorem lim_lt {xs : List Nat} (h : okL xs) (i : Nat) : lim xs i < B := by
  unfold lim
  rw [List.getD_eq_getElem?_getD]
  by_cases hi : i < xs.length
  · rw [List.getElem?_eq_getElem hi]; exact h _ (List.getElem_mem hi)
  · rw [List.getElem?_eq_none (by omega)]; exact B_pos
theorem lim_in {xs : List Nat} {i : Nat} (h : i < xs.length) : lim xs i = xs[i] := by
  unfold lim; rw [List.getD_eq_getElem?_getD, List.getElem?_eq_getElem h]; rfl
theorem lim_out {xs : List Nat} {i : Nat} (h : xs.length ≤ i) : lim xs i = 0 := by
  unfold lim; rw [List.getD_eq_getElem?_getD, List.getElem?_eq_none h]; rfl

/-- The first k limbs as a number. -/
def low (xs : List Nat) (k : Nat) : Nat := val (xs.take k)
theorem low_zero (xs : List Nat) : low xs 0 = 0 := by simp [low, val]
theorem low_succ (xs : List Nat) (k : Nat) : low xs (k + 1) = low xs k + B ^ k * lim xs k := by
  unfold low
  by_cases h : k < xs.length
  · rw [take_snoc' h, val_snoc, lim_in h, List.length_take, Nat.min_eq_left (by omega)]
  · rw [List.take_of_length_le (by omega), List.take_of_length_le (by omega), lim_out (by omega)]; simp
theorem low_all {xs : List Nat} {k : Nat} (h : xs.length ≤ k) : low xs k = val xs := by
  unfold low; rw [List.take_of_length_le h]
theorem low_lt {xs : List Nat} (h : okL xs) (k : Nat) : low xs k < B ^ k := by
  unfold low
  exact Nat.lt_of_lt_of_le (val_lt (h.take k)) (Nat.pow_le_pow_right B_pos (by simp; omega))

theorem val_high (xs : List Nat) (k : Nat) : val xs = low xs k + B ^ k * val (xs.drop k) := by
  unfold low
  by_cases h : k ≤ xs.length
  · conv => lhs; rw [← List.take_append_drop k xs]
    rw [val_append, List.length_take, Nat.min_eq_left h]
  · rw [List.take_of_length_le (by omega), List.drop_eq_nil_of_le (by omega)]; simp [val]

theorem val_set {xs : List Nat} {i : Nat} (h : i < xs.length) (v : Nat) : val (xs.set i v) + B ^ i * xs[i] = val xs + B ^ i * v := by
  induction xs generalizing i with
  | nil => simp at h
  | cons x xs ih =>
    cases i with
    | zero => simp [val_cons]; omega
    | succ i =>
      simp only [List.length_cons] at h
      have := ih (by omega : i < xs.length)
      simp only [List.set_cons_succ, val_cons, List.getElem_cons_succ, Nat.pow_succ]
      rw [Nat.mul_comm (B ^ i) B, Nat.mul_assoc, Nat.mul_assoc, Nat.add_assoc, ← Nat.mul_add, this, Nat.mul_add, Nat.add_assoc]
theorem okL.set {xs : List Nat} (h : okL xs) (i : Nat) {v : Nat} (hv : v < B) : okL (xs.set i v) := fun x hx => by
  rcases List.mem_or_eq_of_mem_set hx with hx | rfl
  · exact h x hx
  · exact hv
theorem low_le (xs : List Nat) (k : Nat) : low xs k ≤ val xs := by rw [val_high xs k]; omega

/-- One step of a sum. -/
theorem sum_step {X Y O P c x y : Nat} (h : O + P * c = X + Y) : (O + P * ((x + y + c) % B)) + P * B * ((x + y + c) / B) = (X + P * x) + (Y + P * y) := by
  have e := Nat.mod_add_div (x + y + c) B
  have : P * ((x + y + c) % B) + P * B * ((x + y + c) / B) = P * (x + y + c) := by
    rw [Nat.mul_assoc, ← Nat.mul_add, e]
  have e2 : P * (x + y + c) = P * x + P * y + P * c := by rw [Nat.mul_add, Nat.mul_add]
  omega
theorem sum_carry {x y c : Nat} (hx : x < B) (hy : y < B) (hc : c ≤ 1) : (x + y + c) / B ≤ 1 := by
  have hB := B_eq
  rw [Nat.div_le_iff_le_mul_add_pred B_pos]; omega

/-- What a sum's loop holds after k limbs. -/
structure SumAt (xs ys : List Nat) (k : Nat) (os : List Nat) (c : Nat) : Prop where
  len : os.length = k
  ok : okL os
  carry : c ≤ 1
  eq : val os + B ^ k * c = low xs k + low ys k
theorem SumAt.zero (xs ys : List Nat) : SumAt xs ys 0 [] 0 := ⟨rfl, okL_nil, by omega, by simp [val, low_zero]⟩
theorem SumAt.succ {xs ys os : List Nat} {k c : Nat} (h : SumAt xs ys k os c) (hx : okL xs) (hy : okL ys) :
    SumAt xs ys (k + 1) (os ++ [(lim xs k + lim ys k + c) % B]) ((lim xs k + lim ys k + c) / B) := by
  refine ⟨by simp [h.len], h.ok.append (okL.cons (Nat.mod_lt _ B_pos) okL_nil), sum_carry (lim_lt hx k) (lim_lt hy k) h.carry, ?_⟩
  rw [val_snoc, h.len, low_succ, low_succ, Nat.pow_succ]
  exact sum_step h.eq
theorem SumAt.done {xs ys os : List Nat} {k c : Nat} (h : SumAt xs ys k os c) (hx : okL xs) (hy : okL ys) (h1 : xs.length < k) (h2 : ys.length < k) : val os = val xs + val ys ∧ c = 0 := by
  have e := h.eq
  rw [low_all (by omega), low_all (by omega)] at e
  have hk : k = (k - 1) + 1 := by omega
  have a : val xs < B ^ (k - 1) := Nat.lt_of_lt_of_le (val_lt hx) (Nat.pow_le_pow_right B_pos (by omega))
  have b : val ys < B ^ (k - 1) := Nat.lt_of_lt_of_le (val_lt hy) (Nat.pow_le_pow_right B_pos (by omega))
  have hp : B ^ k = B ^ (k - 1) * B := by conv => lhs; rw [hk, Nat.pow_succ]
  have hB := B_eq
  have hc : c = 0 := by
    rcases Nat.eq_zero_or_pos c with hz | hz
    · exact hz
    · have : B ^ k ≤ B ^ k * c := Nat.le_mul_of_pos_right _ hz
      have h3 : B ^ (k - 1) * 2 ≤ B ^ (k - 1) * B := Nat.mul_le_mul_left _ (by omega)
      omega
  subst hc
  exact ⟨by omega, rfl⟩

/-- One step of a difference: B is lent, and comes back. -/
theorem sub_limb {x y c : Nat} (hx : x < B) (hy : y < B) (hc : c ≤ 1) : (B + x - y - c) % B + y + c = x + B * (1 - (B + x - y - c) / B) ∧ 1 - (B + x - y - c) / B ≤ 1 := by
  have hB := B_eq
  refine ⟨?_, Nat.sub_le _ _⟩
  by_cases h : y + c ≤ x
  · have e : B + x - y - c = B * 1 + (x - y - c) := by omega
    rw [e, Nat.mul_add_mod, Nat.mod_eq_of_lt (by omega), Nat.mul_add_div B_pos, Nat.div_eq_of_lt (by omega : x - y - c < B)]
    omega
  · rw [Nat.mod_eq_of_lt (by omega), Nat.div_eq_of_lt (by omega)]
    omega
structure SubAt (xs ys : List Nat) (k : Nat) (os : List Nat) (c : Nat) : Prop where
  len : os.length = xs.length
  ok : okL os
  carry : c ≤ 1
  rest : ∀ i, k ≤ i → os[i]? = xs[i]?
  eq : low os k + low ys k = low xs k + B ^ k * c
theorem SubAt.zero {xs : List Nat} (ys : List Nat) (h : okL xs) : SubAt xs ys 0 xs 0 := ⟨rfl, h, by omega, fun _ _ => rfl, by simp [low_zero]⟩
theorem low_set_same {os : List Nat} {k v : Nat} (h : k < os.length) : low (os.set k v) (k + 1) = low os k + B ^ k * v := by
  rw [low_succ]
  unfold low
  rw [List.take_set_of_le (Nat.le_refl _), lim_in (by simpa using h)]
  simp
theorem lim_rest {xs os : List Nat} {k : Nat} (h : os[k]? = xs[k]?) : lim os k = lim xs k := by
  unfold lim; rw [List.getD_eq_getElem?_getD, List.getD_eq_getElem?_getD, h]
theorem SubAt.succ {xs ys os : List Nat} {k c : Nat} (h : SubAt xs ys k os c) (hx : okL xs) (hy : okL ys) (hk : k < xs.length) :
    SubAt xs ys (k + 1) (os.set k ((B + lim xs k - lim ys k - c) % B)) (1 - (B + lim xs k - lim ys k - c) / B) := by
  obtain ⟨e, hc⟩ := sub_limb (lim_lt hx k) (lim_lt hy k) h.carry
  refine ⟨by simp [h.len], h.ok.set _ (Nat.mod_lt _ B_pos), hc, fun i hi => ?_, ?_⟩
  · rw [List.getElem?_set_ne (by omega)]; exact h.rest i (by omega)
  · rw [low_set_same (by rw [h.len]; exact hk), low_succ, low_succ, Nat.pow_succ]
    have h0 := h.eq
    generalize (B + lim xs k - lim ys k - c) % B = r at e ⊢
    generalize 1 - (B + lim xs k - lim ys k - c) / B = c' at e ⊢
    generalize lim xs k = x at e ⊢
    generalize lim ys k = y at e ⊢
    generalize B ^ k = P at h0 ⊢
    have e2 : P * r + P * y + P * c = P * x + P * (B * c') := by rw [← Nat.mul_add, ← Nat.mul_add, ← Nat.mul_add, e]
    rw [Nat.mul_assoc]
    omega
theorem val_of_low {xs os : List Nat} {k : Nat} (hr : ∀ i, k ≤ i → os[i]? = xs[i]?) : val os = low os k + B ^ k * val (xs.drop k) := by
  rw [val_high os k]
  congr 3
  apply List.ext_getElem?
  intro i
  rw [List.getElem?_drop, List.getElem?_drop]
  exact hr _ (by omega)
/-- Nothing is lent any more, and y has ended: done. -/
theorem SubAt.stop {xs ys os : List Nat} {k : Nat} (h : SubAt xs ys k os 0) (hy : ys.length ≤ k) : val os + val ys = val xs := by
  have e := h.eq
  rw [low_all hy] at e
  rw [val_of_low h.rest, val_high xs k]
  omega
theorem SubAt.done {xs ys os : List Nat} {c : Nat} (h : SubAt xs ys xs.length os c) (hx : okL xs) (hle : val ys ≤ val xs) : val os + val ys = val xs := by
  have e := h.eq
  have h1 := low_all (xs := os) (k := xs.length) (by rw [h.len]; exact Nat.le_refl _)
  rw [h1, low_all (Nat.le_refl _)] at e
  have h2 := val_lt hx
  have h3 := val_high ys xs.length
  have h4 : val (ys.drop xs.length) = 0 := by
    rcases Nat.eq_zero_or_pos (val (ys.drop xs.length)) with hz | hz
    · exact hz
    · have := Nat.le_mul_of_pos_right (B ^ xs.length) hz
      omega
  rw [h4] at h3
  have h5 : c = 0 := by
    rcases Nat.eq_zero_or_pos c with hz | hz
    · exact hz
    · have := Nat.le_mul_of_pos_right (B ^ xs.length) hz
      have := low_le ys xs.length
      have h6 := val_lt h.ok
      rw [h.len] at h6
      omega
  subst h5
  omega

/-- Limbs held from the top on. -/
def CmpAt (xs ys : List Nat) (k : Nat) : Prop := ∃ h, val xs = low xs k + B ^ k * h ∧ val ys = low ys k + B ^ k * h
theorem CmpAt.top {xs ys : List Nat} {k : Nat} (h1 : xs.length ≤ k) (h2 : ys.length ≤ k) : CmpAt xs ys k := ⟨0, by rw [low_all h1]; omega, by rw [low_all h2]; omega⟩
theorem CmpAt.same {xs ys : List Nat} {k : Nat} (h : CmpAt xs ys (k + 1)) (he : lim xs k = lim ys k) : CmpAt xs ys k := by
  obtain ⟨q, h1, h2⟩ := h
  rw [low_succ, Nat.pow_succ] at h1 h2
  rw [he] at h1
  exact ⟨lim ys k + B * q, by rw [Nat.mul_add, ← Nat.mul_assoc]; omega, by rw [Nat.mul_add, ← Nat.mul_assoc]; omega⟩
theorem CmpAt.less {xs ys : List Nat} {k : Nat} (h : CmpAt xs ys (k + 1)) (hx : okL xs) (he : lim xs k < lim ys k) : val xs < val ys := by
  obtain ⟨q, h1, h2⟩ := h
  rw [low_succ] at h1 h2
  have a := low_lt hx k
  have b : B ^ k * (lim xs k + 1) ≤ B ^ k * lim ys k := Nat.mul_le_mul_left _ he
  rw [Nat.mul_succ] at b
  omega
theorem CmpAt.zero {xs ys : List Nat} (h : CmpAt xs ys 0) : val xs = val ys := by
  obtain ⟨q, h1, h2⟩ := h
  rw [low_zero] at h1 h2
  omega
theorem CmpAt.swap {xs ys : List Nat} {k : Nat} (h : CmpAt xs ys k) : CmpAt ys xs k := by
  obtain ⟨q, h1, h2⟩ := h
  exact ⟨q, h2, h1⟩
def cmpI (a b : Nat) : Int := if a < b then -1 else if a = b then 0 else 1
theorem cmpI_lt {a b : Nat} (h : a < b) : cmpI a b = -1 := by unfold cmpI; rw [if_pos h]
theorem cmpI_eq {a b : Nat} (h : a = b) : cmpI a b = 0 := by unfold cmpI; rw [if_neg (by omega), if_pos h]
theorem cmpI_gt {a b : Nat} (h : b < a) : cmpI a b = 1 := by unfold cmpI; rw [if_neg (by omega), if_neg (by omega)]

/-- The numbers of a product: before row i, within it behind k limbs. -/
theorem mul_limb {a b o c : Nat} (ha : a < B) (hb : b < B) (ho : o < B) (hc : c < B) : (a * b + o + c) / B < B := by
  rw [Nat.div_lt_iff_lt_mul B_pos]
  have h1 : a * b ≤ (B - 1) * (B - 1) := Nat.mul_le_mul (by omega) (by omega)
  have h2 : (B - 1) * (B - 1) + (B - 1) + (B - 1) + 1 = B * B := by rfl
  omega
/-- The rows of a product: out has n + m limbs, those from i + m on zero. -/
structure RowAt (xs ys : List Nat) (i : Nat) (os : List Nat) : Prop where
  len : os.length = xs.length + ys.length
  ok : okL os
  zero : ∀ j, i + ys.length ≤ j → j < os.length → os[j]? = some 0
  eq : val os = low xs i * val ys
structure LimbAt (xs ys : List Nat) (i k : Nat) (os : List Nat) (c : Nat) : Prop where
  len : os.length = xs.length + ys.length
  ok : okL os
  carry : c < B
  zero : ∀ j, i + ys.length ≤ j → j < os.length → os[j]? = some 0
  eq : val os + B ^ (i + k) * c = low xs i * val ys + B ^ i * (lim xs i * low ys k)
theorem RowAt.limbs {xs ys os : List Nat} {i : Nat} (h : RowAt xs ys i os) : LimbAt xs ys i 0 os 0 :=
  ⟨h.len, h.ok, B_pos, h.zero, by rw [h.eq, low_zero]; simp⟩
theorem set_eq {os : List Nat} {j : Nat} (h : j < os.length) (v : Nat) : val (os.set j v) + B ^ j * lim os j = val os + B ^ j * v := by
  rw [lim_in h]; exact val_set h v
theorem LimbAt.succ {xs ys os : List Nat} {i k c : Nat} (h : LimbAt xs ys i k os c) (hx : okL xs) (hy : okL ys) (hi : i < xs.length) (hk : k < ys.length) :
    LimbAt xs ys i (k + 1) (os.set (i + k) ((lim xs i * lim ys k + lim os (i + k) + c) % B)) ((lim xs i * lim ys k + lim os (i + k) + c) / B) := by
  have hj : i + k < os.length := by rw [h.len]; omega
  refine ⟨by simp [h.len], h.ok.set _ (Nat.mod_lt _ B_pos), mul_limb (lim_lt hx i) (lim_lt hy k) (lim_lt h.ok _) h.carry, fun j h1 h2 => ?_, ?_⟩
  · rw [List.getElem?_set_ne (by omega)]; exact h.zero j h1 (by simpa using h2)
  · have e := set_eq hj ((lim xs i * lim ys k + lim os (i + k) + c) % B)
    have e0 := h.eq
    have ed := Nat.mod_add_div (lim xs i * lim ys k + lim os (i + k) + c) B
    generalize (lim xs i * lim ys k + lim os (i + k) + c) % B = r at e ed ⊢
    generalize (lim xs i * lim ys k + lim os (i + k) + c) / B = d at ed ⊢
    rw [low_succ, ← Nat.add_assoc, Nat.pow_succ, Nat.mul_assoc]
    have hp : B ^ (i + k) = B ^ i * B ^ k := Nat.pow_add B i k
    have e3 : B ^ (i + k) * r + B ^ (i + k) * (B * d) = B ^ (i + k) * (lim xs i * lim ys k) + B ^ (i + k) * lim os (i + k) + B ^ (i + k) * c := by
      rw [← Nat.mul_add, ed, Nat.mul_add, Nat.mul_add]
    have e4 : B ^ i * (lim xs i * (low ys k + B ^ k * lim ys k)) = B ^ i * (lim xs i * low ys k) + B ^ (i + k) * (lim xs i * lim ys k) := by
      rw [Nat.mul_add, Nat.mul_add, hp, Nat.mul_left_comm (lim xs i), ← Nat.mul_assoc (B ^ i) (B ^ k)]
    rw [e4]
    omega
theorem LimbAt.row {xs ys os : List Nat} {i c : Nat} (h : LimbAt xs ys i ys.length os c) (hi : i < xs.length) : RowAt xs ys (i + 1) (os.set (i + ys.length) c) := by
  have hj : i + ys.length < os.length := by rw [h.len]; omega
  have hz : lim os (i + ys.length) = 0 := by
    have := h.zero _ (Nat.le_refl _) hj
    unfold lim; rw [List.getD_eq_getElem?_getD, this]; rfl
  refine ⟨by simp [h.len], h.ok.set _ h.carry, fun j h1 h2 => ?_, ?_⟩
  · rw [List.getElem?_set_ne (by omega)]; exact h.zero j (by omega) (by simpa using h2)
  · have e := set_eq hj c
    have e0 := h.eq
    rw [hz, Nat.mul_zero, Nat.add_zero] at e
    rw [e, e0, low_succ, low_all (Nat.le_refl _), Nat.add_mul, Nat.mul_assoc]
theorem RowAt.skip {xs ys os : List Nat} {i : Nat} (h : RowAt xs ys i os) (hz : lim xs i = 0) : RowAt xs ys (i + 1) os :=
  ⟨h.len, h.ok, fun j h1 h2 => h.zero j (by omega) h2, by rw [h.eq, low_succ, hz]; simp⟩
theorem RowAt.done {xs ys os : List Nat} (h : RowAt xs ys xs.length os) : val os = val xs * val ys := by
  rw [h.eq, low_all (Nat.le_refl _)]

/-- x * by + more, in place. -/
structure GrowAt (xs : List Nat) (q m k : Nat) (os : List Nat) (c : Nat) : Prop where
  len : os.length = xs.length
  ok : okL os
  carry : c < B
  rest : ∀ i, k ≤ i → os[i]? = xs[i]?
  eq : low os k + B ^ k * c = low xs k * q + m
theorem GrowAt.zero {xs : List Nat} (h : okL xs) (q : Nat) {m : Nat} (hm : m < B) : GrowAt xs q m 0 xs m := ⟨rfl, h, hm, fun _ _ => rfl, by simp [low_zero]⟩
theorem GrowAt.succ {xs os : List Nat} {q m k c : Nat} (h : GrowAt xs q m k os c) (hx : okL xs) (hq : q < B) (hk : k < xs.length) :
    GrowAt xs q m (k + 1) (os.set k ((lim xs k * q + c) % B)) ((lim xs k * q + c) / B) := by
  refine ⟨by simp [h.len], h.ok.set _ (Nat.mod_lt _ B_pos), ?_, fun i hi => ?_, ?_⟩
  · have := mul_limb (lim_lt hx k) hq B_pos h.carry
    simpa using this
  · rw [List.getElem?_set_ne (by omega)]; exact h.rest i (by omega)
  · rw [low_set_same (by rw [h.len]; exact hk), low_succ, Nat.pow_succ, Nat.mul_assoc, Nat.add_assoc, ← Nat.mul_add, Nat.mod_add_div]
    have e := h.eq
    rw [Nat.mul_add, Nat.add_mul, ← Nat.mul_assoc]
    omega
theorem GrowAt.done {xs os : List Nat} {q m c : Nat} (h : GrowAt xs q m xs.length os c) : val os + B ^ xs.length * c = val xs * q + m := by
  have e := h.eq
  have h1 := low_all (xs := os) (k := xs.length) (by rw [h.len]; exact Nat.le_refl _)
  rw [h1, low_all (Nat.le_refl _)] at e
  exact e

/-- x / by, in place, from the top: what stands above k is done. -/
structure ShrinkAt (xs : List Nat) (q k : Nat) (os : List Nat) (r : Nat) : Prop where
  len : os.length = xs.length
  ok : okL os
  rest : r < q
  low : ∀ i, i < k → os[i]? = xs[i]?
  eq : val (os.drop k) * q + r = val (xs.drop k)
theorem ShrinkAt.top {xs : List Nat} (h : okL xs) {q : Nat} (hq : 0 < q) : ShrinkAt xs q xs.length xs 0 := ⟨rfl, h, hq, fun _ _ => rfl, by simp [val]⟩
theorem drop_lim {xs : List Nat} {k : Nat} (h : k < xs.length) : xs.drop k = lim xs k :: xs.drop (k + 1) := by
  rw [lim_in h]; exact List.drop_eq_getElem_cons h
theorem drop_set {os : List Nat} {k v : Nat} (h : k < os.length) : (os.set k v).drop k = v :: os.drop (k + 1) := by
  rw [List.drop_eq_getElem_cons (by simpa using h), List.getElem_set_self, List.drop_set_of_lt (by omega)]
theorem ShrinkAt.succ {xs os : List Nat} {q k r : Nat} (h : ShrinkAt xs q (k + 1) os r) (hx : okL xs) (_hq : q ≤ B) (hk : k < xs.length) :
    ShrinkAt xs q k (os.set k ((B * r + lim xs k) / q)) ((B * r + lim xs k) % q) := by
  have q0 : 0 < q := Nat.lt_of_le_of_lt (Nat.zero_le _) h.rest
  refine ⟨by simp [h.len], h.ok.set _ ?_, Nat.mod_lt _ q0, fun i hi => ?_, ?_⟩
  · rw [Nat.div_lt_iff_lt_mul q0]
    have h1 := lim_lt hx k
    have h2 : B * (r + 1) ≤ B * q := Nat.mul_le_mul_left _ h.rest
    rw [Nat.mul_succ] at h2
    omega
  · rw [List.getElem?_set_ne (by omega)]; exact h.low i (by omega)
  · rw [drop_set (by rw [h.len]; exact hk), drop_lim hk, val_cons, val_cons, ← h.eq, Nat.add_mul]
    have e := Nat.mod_add_div (B * r + lim xs k) q
    rw [Nat.mul_comm q] at e
    rw [Nat.mul_add, ← Nat.mul_assoc]
    omega
theorem ShrinkAt.done {xs os : List Nat} {q r : Nat} (h : ShrinkAt xs q 0 os r) : val os * q + r = val xs := by simpa using h.eq
theorem ShrinkAt.quo {xs os : List Nat} {q r : Nat} (h : ShrinkAt xs q 0 os r) : val os = val xs / q ∧ r = val xs % q := by
  have e := h.done
  have q0 : 0 < q := Nat.lt_of_le_of_lt (Nat.zero_le _) h.rest
  rw [← e, Nat.mul_comm, Nat.mul_add_div q0, Nat.mul_add_mod, Nat.div_eq_of_lt h.rest, Nat.mod_eq_of_lt h.rest]
  exact ⟨by omega, rfl⟩

theorem val_div_pow {xs : List Nat} (h : okL xs) (k : Nat) : val xs / B ^ k = val (xs.drop k) := by
  rw [val_high xs k, Nat.add_comm, Nat.mul_add_div (Nat.pow_pos B_pos), Nat.div_eq_of_lt (low_lt h k), Nat.add_zero]
theorem B_two : B = 2 ^ 32 := rfl
theorem pow_B (i : Nat) : 2 ^ i = B ^ (i / 32) * 2 ^ (i % 32) := by
  rw [B_two, ← Nat.pow_mul, ← Nat.pow_add]; congr 1; omega
theorem val_drop (xs : List Nat) (k : Nat) : val (xs.drop k) = lim xs k + B * val (xs.drop (k + 1)) := by
  by_cases h : k < xs.length
  · rw [drop_lim h, val_cons]
  · rw [List.drop_eq_nil_of_le (by omega), List.drop_eq_nil_of_le (by omega), lim_out (by omega)]; rfl
theorem B_split {b : Nat} (h : b < 32) : B = 2 ^ b * (2 * 2 ^ (31 - b)) := by
  have : (2 : Nat) * 2 ^ (31 - b) = 2 ^ (32 - b) := by
    rw [Nat.mul_comm, ← Nat.pow_succ]; congr 1; omega
  rw [this, ← Nat.pow_add, B_two]; congr 1; omega
/-- Bit i of a number of limbs. -/
theorem bit_of {xs : List Nat} (h : okL xs) (i : Nat) : val xs / 2 ^ i % 2 = lim xs (i / 32) / 2 ^ (i % 32) % 2 := by
  rw [pow_B i, ← Nat.div_div_eq_div_mul, val_div_pow h, val_drop]
  have hb : i % 32 < 32 := Nat.mod_lt _ (by decide)
  have e := B_split hb
  generalize i % 32 = b at e hb ⊢
  generalize val (xs.drop _) = r
  have e2 : lim xs (i / 32) + B * r = 2 ^ b * (2 * 2 ^ (31 - b) * r) + lim xs (i / 32) := by
    conv => lhs; rw [e]
    rw [Nat.mul_assoc, Nat.add_comm]
  rw [e2, Nat.mul_add_div (Nat.two_pow_pos b), Nat.mul_assoc, Nat.mul_add_mod]

/-- What a division by hand holds before bit j - 1. -/
structure DivAt (X Y j Q R : Nat) : Prop where
  eq : X / 2 ^ j = Q * Y + R
  lt : R < Y
theorem DivAt.top {X Y n : Nat} (h : X < 2 ^ n) (hY : 0 < Y) : DivAt X Y n 0 0 := ⟨by rw [Nat.div_eq_of_lt h]; simp, hY⟩
theorem half (X j : Nat) : X / 2 ^ j = 2 * (X / 2 ^ (j + 1)) + X / 2 ^ j % 2 := by
  have : X / 2 ^ (j + 1) = X / 2 ^ j / 2 := by rw [Nat.pow_succ, Nat.div_div_eq_div_mul]
  rw [this]; omega
theorem DivAt.low {X Y j Q R : Nat} (h : DivAt X Y (j + 1) Q R) (hl : 2 * R + X / 2 ^ j % 2 < Y) : DivAt X Y j (2 * Q) (2 * R + X / 2 ^ j % 2) :=
  ⟨by have := half X j; rw [h.eq] at this; rw [Nat.mul_assoc]; omega, hl⟩
theorem DivAt.high {X Y j Q R : Nat} (h : DivAt X Y (j + 1) Q R) (hl : Y ≤ 2 * R + X / 2 ^ j % 2) : DivAt X Y j (2 * Q + 1) (2 * R + X / 2 ^ j % 2 - Y) :=
  ⟨by have := half X j; rw [h.eq] at this; rw [Nat.add_mul, Nat.mul_assoc]; omega, by have := h.lt; omega⟩
theorem DivAt.done {X Y Q R : Nat} (h : DivAt X Y 0 Q R) : Q = X / Y ∧ R = X % Y := by
  have e := h.eq
  have hY : 0 < Y := Nat.lt_of_le_of_lt (Nat.zero_le _) h.lt
  simp at e
  rw [e, Nat.mul_comm, Nat.mul_add_div hY, Nat.mul_add_mod, Nat.div_eq_of_lt h.lt, Nat.mod_eq_of_lt h.lt]
  exact ⟨by omega, rfl⟩
/-- A number of limbs whose lowest bits are zero: the bit below them is set by 'or'. -/
theorem set_bit {qs : List Nat} {i Q : Nat} (h : okL qs) (hi : i / 32 < qs.length) (hq : val qs = 2 ^ (i + 1) * Q) :
    val (qs.set (i / 32) (lim qs (i / 32) ||| 2 ^ (i % 32))) = 2 ^ i * (2 * Q + 1) ∧ lim qs (i / 32) ||| 2 ^ (i % 32) < B := by
  have hb : i % 32 < 32 := Nat.mod_lt _ (by decide)
  have e1 := val_div_pow h (i / 32)
  rw [hq, Nat.pow_succ, pow_B i, Nat.mul_assoc, Nat.mul_assoc, Nat.mul_div_right _ (Nat.pow_pos B_pos), val_drop] at e1
  have e := B_split hb
  have hp := pow_B i
  have hlt := lim_lt h (i / 32)
  have hse := set_eq hi (lim qs (i / 32) ||| 2 ^ (i % 32))
  generalize val (qs.drop _) = r at e1
  generalize lim qs (i / 32) = l at *
  generalize i % 32 = b at *
  have hl : l = 2 ^ (b + 1) * (Q - 2 ^ (31 - b) * r) := by
    have e3 : B * r = 2 ^ (b + 1) * (2 ^ (31 - b) * r) := by
      conv => lhs; rw [e]
      rw [Nat.pow_succ, Nat.mul_assoc, Nat.mul_assoc, Nat.mul_assoc]
    have e4 : 2 ^ b * (2 * Q) = 2 ^ (b + 1) * Q := by rw [Nat.pow_succ, Nat.mul_assoc]
    rw [e3, e4] at e1
    rw [Nat.mul_sub]
    omega
  have ho : l ||| 2 ^ b = l + 2 ^ b := by
    rw [hl]
    exact (Nat.two_pow_add_eq_or_of_lt (Nat.pow_lt_pow_right (by decide) (by omega)) _).symm
  have hlt2 : l + 2 ^ b < B := by
    rw [← ho, B_two]
    exact Nat.or_lt_two_pow (by rw [← B_two]; exact hlt) (Nat.pow_lt_pow_right (by decide) hb)
  rw [ho] at hse ⊢
  refine ⟨?_, hlt2⟩
  rw [Nat.mul_add, ← hp] at hse
  have : 2 ^ i * (2 * Q + 1) = 2 ^ (i + 1) * Q + 2 ^ i := by rw [Nat.mul_add, Nat.pow_succ, Nat.mul_assoc, Nat.mul_one]
  omega

theorem pow_bits (k : Nat) : B ^ k = 2 ^ (32 * k) := by rw [B_two, ← Nat.pow_mul]

/-- Trimmed limbs: a head that keeps the number, with a last limb that is no zero, are the limbs of the number. -/
theorem dig_take {xs : List Nat} {k : Nat} (h : okL xs) (hz : ∀ i, k ≤ i → i < xs.length → xs[i]? = some 0) (ht : k = 0 ∨ lim xs (k - 1) ≠ 0) (hk : k ≤ xs.length) : xs.take k = dig (val xs) := by
  have hv : val xs = val (xs.take k) := by
    rw [val_high xs k]
    have : val (xs.drop k) = 0 := by
      have e : xs.drop k = List.replicate (xs.length - k) 0 := by
        apply List.ext_getElem?
        intro i
        rw [List.getElem?_drop, List.getElem?_replicate]
        split
        · exact hz _ (by omega) (by omega)
        · rw [List.getElem?_eq_none (by omega)]
      rw [e, val_zeros]
    rw [this]; simp [low]
  rw [hv, dig_val (h.take k)]
  intro x hx
  rcases ht with rfl | ht
  · simp at hx
  · rw [List.getLast?_eq_getElem?, List.length_take, Nat.min_eq_left hk, List.getElem?_take] at hx
    by_cases h0 : k = 0
    · subst h0; simp at hx
    · rw [if_pos (by omega)] at hx
      unfold lim at ht
      rw [List.getD_eq_getElem?_getD, hx] at ht
      simpa using ht

/-- Decimal digits, as bytes, the greatest first. -/
def dec (n : Nat) : List UInt8 := if _h : n < 10 then [UInt8.ofNat (48 + n)] else dec (n / 10) ++ [UInt8.ofNat (48 + n % 10)]
termination_by n
decreasing_by exact Nat.div_lt_self (by omega) (by decide)
theorem dec_small {n : Nat} (h : n < 10) : dec n = [UInt8.ofNat (48 + n)] := by rw [dec, dif_pos h]
theorem dec_big {n : Nat} (h : ¬ n < 10) : dec n = dec (n / 10) ++ [UInt8.ofNat (48 + n % 10)] := by rw [dec, dif_neg h]
/-- The digits that are still to come, nought having none. -/
def dec0 (n : Nat) : List UInt8 := if n = 0 then [] else dec n
theorem dec0_zero : dec0 0 = [] := rfl
theorem dec0_pos {n : Nat} (h : n ≠ 0) : dec0 n = dec0 (n / 10) ++ [UInt8.ofNat (48 + n % 10)] := by
  unfold dec0
  rw [if_neg h]
  by_cases h1 : n < 10
  · rw [dec_small h1, if_pos (by omega), List.nil_append, Nat.mod_eq_of_lt h1]
  · rw [dec_big h1, if_neg (by omega)]
theorem dec_ne_nil (n : Nat) : dec n ≠ [] := by
  by_cases h : n < 10
  · rw [dec_small h]; simp
  · rw [dec_big h]; simp

/-- Is a byte a digit? -/
def isD (c : UInt8) : Bool := decide (48 ≤ c.toNat) && decide (c.toNat ≤ 57)
theorem digit_toNat {d : Nat} (h : d < 10) : (UInt8.ofNat (48 + d)).toNat = 48 + d := by
  rw [UInt8.toNat_ofNat']; omega
/-- The number of digits. -/
def num (l : List UInt8) : Nat := l.foldl (fun a c => 10 * a + (c.toNat - 48)) 0
theorem num_snoc (l : List UInt8) (c : UInt8) : num (l ++ [c]) = 10 * num l + (c.toNat - 48) := by simp [num, List.foldl_append]
/-- Are these digits of a number, as Text writes them? -/
def isCnt (l : List UInt8) : Bool := !l.isEmpty && (l.head? != some 48 || l == [48]) && l.all isD
theorem fold_ge (m : List UInt8) : ∀ a : Nat, a ≤ m.foldl (fun a c => 10 * a + (c.toNat - 48)) a := by
  induction m with
  | nil => exact fun a => Nat.le_refl a
  | cons c m ih => exact fun a => Nat.le_trans (show a ≤ 10 * a + (c.toNat - 48) by omega) (ih _)
theorem num_ge (l m : List UInt8) : num l ≤ num (l ++ m) := by
  unfold num
  rw [List.foldl_append]
  exact fold_ge m _
/-- The text of an integer. -/
def txt (n : Int) : List UInt8 := if n < 0 then 45 :: dec n.natAbs else dec n.natAbs
/-- What a text is read as: 0 it is none, 1 too long, 2 read. -/
inductive Rd where | form | long | is (n : Int)
def rd (l : List UInt8) : Rd :=
  let neg := l.head? == some 45
  let d := if neg then l.tail else l
  if isCnt d = false ∨ (neg = true ∧ d = [48]) then .form else if B ^ 8 ≤ num d then .long else .is (if neg then -(num d : Int) else num d)
end Go.Proofs.YtakahpbondaidaaGreatDoor.Bg
namespace Go.Proofs.YtakahpbondaidaaGreatDoor.Bg
open Go.RowKit

/-- The slice at A holds the limbs xs. -/
def Lim (w : World) (A : Option Addr) (xs : List Nat) : Prop :=
  okL xs ∧ (0 < xs.length → ∃ ad, A = some ad ∧ ad.block < w.heap.size ∧ ∀ j, j < xs.length → w.cell? (ad.add j) = some (.int .u32 (lim xs j)))
/-- Block g holds the limbs xs, and perhaps more. -/
def Own (w : World) (g : Nat) (xs : List Nat) : Prop :=
  okL xs ∧ ∃ cur e, w.heap[g]? = some (.cells cur e (0, 0)) ∧ ∀ j, j < xs.length → cur[j]? = some (.int .u32 (lim xs j))

theorem block_of_add (a : Addr) (n : Nat) : (a.add n).block = a.block := by unfold Addr.add; split <;> rfl
theorem zero_add_addr (g j : Nat) : (⟨g, 0, none⟩ : Addr).add j = ⟨g, j, none⟩ := by unfold Addr.add; split <;> simp_all

section
variable {w w' : World} {A : Option Addr} {xs : List Nat} {g : Nat}
theorem Lim.nil : Lim w A [] := ⟨okL_nil, fun h => absurd h (by simp)⟩
theorem Lim.keep (h : Lim w A xs) (hs : w.heap.size ≤ w'.heap.size) (hk : ∀ k, A.map (·.block) = some k → k < w.heap.size → w'.heap[k]? = w.heap[k]?) : Lim w' A xs :=
  ⟨h.1, fun h0 => by
    obtain ⟨ad, rfl, hb, hc⟩ := h.2 h0
    exact ⟨ad, rfl, by omega, fun j hj => (World.cell?_of_block (w := w) (by rw [block_of_add]; exact hk _ rfl hb)).trans (hc j hj)⟩⟩
theorem Lim.below (h : Lim w A xs) (hb : Below w.heap.size w w') : Lim w' A xs := h.keep hb.size fun k _ hk => hb.block k hk
theorem Lim.grown (h : Lim w A xs) {row : Option Nat} (hg : w.grownBy w' row) (hr : ∀ ad, A = some ad → some ad.block ≠ row) : Lim w' A xs :=
  h.keep hg.size fun k hk hlt => hg.block k hlt (by
    cases A with
    | none => simp at hk
    | some ad => simp at hk; subst hk; exact hr ad rfl)
theorem Lim.drew (h : Lim w A xs) : Lim w.drew A xs := h
theorem Lim.drewN (h : Lim w A xs) (n : Nat) : Lim (w.drewN n) A xs := h
theorem Lim.alloc (h : Lim w A xs) (o : Obj) : Lim (w.alloc o) A xs := h.keep (by simp) fun k _ hk => Below.heap_alloc _ _ _ hk
theorem Lim.setCell (h : Lim w A xs) {p : Addr} (u : Value) (hp : ∀ ad, A = some ad → ad.block ≠ p.block) : Lim (w.setCell p u) A xs :=
  h.keep (by simp [World.setCell]) fun k hk _ => Below.heap_setCell _ _ _ _ (by
    cases A with
    | none => simp at hk
    | some ad => simp at hk; subst hk; exact hp ad rfl)
theorem Lim.at_ (h : Lim w A xs) {k : Nat} (hk : k < xs.length) : ∃ ad, A = some ad ∧ w.cell? (ad.add k) = some (.int .u32 (lim xs k)) := by
  obtain ⟨ad, e, _, hc⟩ := h.2 (by omega)
  exact ⟨ad, e, hc k hk⟩
theorem Lim.take (h : Lim w A xs) (k : Nat) : Lim w A (xs.take k) :=
  ⟨h.1.take k, fun h0 => by
    rw [List.length_take] at h0
    obtain ⟨ad, e, hb, hc⟩ := h.2 (by omega)
    refine ⟨ad, e, hb, fun j hj => ?_⟩
    rw [List.length_take] at hj
    have : lim (xs.take k) j = lim xs j := by
      unfold lim; rw [List.getD_eq_getElem?_getD, List.getD_eq_getElem?_getD, List.getElem?_take, if_pos (by omega)]
    rw [this]
    exact hc j (by omega)⟩

theorem Own.lt (h : Own w g xs) : g < w.heap.size := by
  obtain ⟨_, cur, e, hh, _⟩ := h
  exact (Array.getElem?_eq_some_iff.1 hh).1
theorem Own.cell (h : Own w g xs) {j : Nat} (hj : j < xs.length) : w.cell? ⟨g, j, none⟩ = some (.int .u32 (lim xs j)) := by
  obtain ⟨_, cur, e, hh, hc⟩ := h
  rw [cell_of_row w g j cur e (0, 0) hh]
  exact hc j hj
theorem Own.frozen (h : Own w g xs) (j : Nat) : w.frozen? ⟨g, j, none⟩ = false := by
  obtain ⟨_, cur, e, hh, hc⟩ := h
  simp [World.frozen?, hh]
theorem Own.toLim (h : Own w g xs) : Lim w (some ⟨g, 0, none⟩) xs :=
  ⟨h.1, fun _ => ⟨_, rfl, h.lt, fun j hj => by rw [zero_add_addr]; exact h.cell hj⟩⟩
theorem Own.block (h : Own w g xs) (hk : w'.heap[g]? = w.heap[g]?) : Own w' g xs := by
  obtain ⟨h1, cur, e, hh, hc⟩ := h
  exact ⟨h1, cur, e, hk.trans hh, hc⟩
theorem Own.below {B : Nat} (h : Own w g xs) (hb : Below B w w') (hg : g < B) : Own w' g xs := h.block (hb.block g hg)
theorem Own.grown (h : Own w g xs) {row : Option Nat} (hg : w.grownBy w' row) (hr : some g ≠ row) : Own w' g xs := h.block (hg.block g h.lt hr)
theorem Own.drew (h : Own w g xs) : Own w.drew g xs := h
theorem Own.drewN (h : Own w g xs) (n : Nat) : Own (w.drewN n) g xs := h
theorem Own.alloc (h : Own w g xs) (o : Obj) : Own (w.alloc o) g xs := h.block (Below.heap_alloc _ _ _ h.lt)
theorem Own.far (h : Own w g xs) {p : Addr} (hp : g ≠ p.block) (u : Value) : Own (w.setCell p u) g xs := h.block (Below.heap_setCell _ _ _ _ hp)
theorem Own.set (h : Own w g xs) {k v : Nat} (hk : k < xs.length) (hv : v < B) : Own (w.setCell ⟨g, k, none⟩ (.int .u32 v)) g (xs.set k v) := by
  obtain ⟨h1, cur, e, hh, hc⟩ := h
  refine ⟨h1.set k hv, cur.setIfInBounds k (.int .u32 v), e, ?_, fun j hj => ?_⟩
  · simp [World.setCell, Array.getElem?_modify, hh]
  · rw [List.length_set] at hj
    rw [Array.getElem?_setIfInBounds]
    by_cases hjk : k = j
    · subst hjk
      have hlt : k < cur.size := (Array.getElem?_eq_some_iff.1 (hc k hj)).1
      rw [if_pos rfl, if_pos hlt]
      unfold lim
      rw [List.getD_eq_getElem?_getD, List.getElem?_set_self hk]
      rfl
    · rw [if_neg hjk, hc j hj]
      unfold lim
      rw [List.getD_eq_getElem?_getD, List.getD_eq_getElem?_getD, List.getElem?_set_ne hjk]
theorem grown_set (w : World) (g k : Nat) (u : Value) : w.grownBy (w.setCell ⟨g, k, none⟩ u) (some g) :=
  ⟨rfl, rfl, rfl, by simp [World.setCell], fun j _ hj => Below.heap_setCell _ _ _ _ (fun e => hj (by simp [e]))⟩
theorem grown_refl (w : World) (row : Option Nat) : w.grownBy w row := ⟨rfl, rfl, rfl, Nat.le_refl _, fun _ _ _ => rfl⟩
theorem grown_trans {a b c : World} {row : Option Nat} (h : a.grownBy b row) (k : b.grownBy c row) : a.grownBy c row :=
  ⟨k.os.trans h.os, k.tape.trans h.tape, k.output.trans h.output, Nat.le_trans h.size k.size, fun i hi hr => (k.block i (Nat.lt_of_lt_of_le hi h.size) hr).trans (h.block i hi hr)⟩
theorem grown_drew {a b : World} {row : Option Nat} (h : a.grownBy b row) : a.grownBy b.drew row := ⟨h.os, h.tape, h.output, h.size, h.block⟩
theorem grown_drewN {a b : World} {row : Option Nat} (h : a.grownBy b row) (n : Nat) : a.grownBy (b.drewN n) row := ⟨h.os, h.tape, h.output, h.size, h.block⟩
/-- New zero limbs. -/
theorem Own.zeros (w : World) (n : Nat) (t : TypeId) (cs : Array Value) (hc : cs = Array.replicate n (.int .u32 0)) : Own (w.alloc (.cells cs t)) w.heap.size (List.replicate n 0) := by
  subst hc
  refine ⟨okL.replicate n, _, t, heap_alloc_new w _, fun j hj => ?_⟩
  simp at hj
  rw [Array.getElem?_replicate, if_pos hj, lim_in (by simpa using hj)]
  simp
end


/-- May a sign and limbs be? -/
def mayL (neg : Bool) (xs : List Nat) : Bool := if xs.length = 0 then !neg else decide (xs.length ≤ 8) && decide (lim xs (xs.length - 1) ≠ 0)
/-- The number of a sign and a size. -/
def sgn (neg : Bool) (m : Nat) : Int := if neg then -(m : Int) else m
/-- The number of any sign and limbs. -/
def bigI (neg : Bool) (xs : List Nat) : Int := if mayL neg xs then sgn neg (val xs) else 0
theorem sgn_abs (neg : Bool) (m : Nat) : (sgn neg m).natAbs = m := by cases neg <;> simp [sgn]
theorem topOk_of {xs : List Nat} (h : xs.length = 0 ∨ lim xs (xs.length - 1) ≠ 0) : topOk xs := by
  intro x hx
  rcases h with h | h
  · have : xs = [] := List.eq_nil_of_length_eq_zero h
    subst this; simp at hx
  · rw [List.getLast?_eq_getElem?] at hx
    unfold lim at h
    rw [List.getD_eq_getElem?_getD, hx] at h
    simpa using h
/-- What is valid is just the limbs of its number, and its sign. -/
theorem may_yes {neg : Bool} {xs : List Nat} (ho : okL xs) (h : mayL neg xs = true) : xs = dig (bigI neg xs).natAbs ∧ neg = decide (bigI neg xs < 0) ∧ (bigI neg xs).natAbs < B ^ 8 := by
  have e : bigI neg xs = sgn neg (val xs) := by unfold bigI; rw [if_pos h]
  rw [e, sgn_abs]
  unfold mayL at h
  by_cases h0 : xs.length = 0
  · have : xs = [] := List.eq_nil_of_length_eq_zero h0
    subst this
    simp at h
    subst h
    exact ⟨dig_zero.symm, rfl, by decide⟩
  · rw [if_neg h0] at h
    simp at h
    obtain ⟨h1, h2⟩ := h
    have ht := topOk_of (xs := xs) (.inr h2)
    refine ⟨(dig_val ho ht).symm, ?_, Nat.lt_of_lt_of_le (val_lt ho) (Nat.pow_le_pow_right B_pos h1)⟩
    have hv : val xs ≠ 0 := fun hz => h0 (by rw [val_zero_top ht hz]; rfl)
    cases neg with
    | false => simp [sgn]
    | true => simp [sgn]; omega
theorem may_no {neg : Bool} {xs : List Nat} (h : mayL neg xs = false) : bigI neg xs = 0 := by unfold bigI; rw [h]; rfl
theorem bigI_abs {neg : Bool} {xs : List Nat} (ho : okL xs) : (bigI neg xs).natAbs < B ^ 8 := by
  by_cases h : mayL neg xs = true
  · exact (may_yes ho h).2.2
  · rw [may_no (by simpa using h)]; decide
/-- The limbs and the sign of a number that is short enough may be. -/
theorem may_dig {n : Int} (h : n.natAbs < B ^ 8) : mayL (decide (n < 0)) (dig n.natAbs) = true := by
  unfold mayL
  by_cases h0 : n = 0
  · subst h0; rw [show (0 : Int).natAbs = 0 from rfl, dig_zero]; rfl
  · have hne : dig n.natAbs ≠ [] := fun e => by
      have := val_dig n.natAbs
      rw [e] at this
      simp [val] at this
      omega
    have hl : (dig n.natAbs).length ≠ 0 := fun e => hne (List.eq_nil_of_length_eq_zero e)
    rw [if_neg hl]
    have h1 := dig_len_le h
    have h2 : lim (dig n.natAbs) ((dig n.natAbs).length - 1) ≠ 0 := by
      have ht := dig_topOk n.natAbs
      unfold lim
      rw [List.getD_eq_getElem?_getD, ← List.getLast?_eq_getElem?]
      cases hg : (dig n.natAbs).getLast? with
      | none => rw [List.getLast?_eq_none_iff] at hg; exact absurd hg hne
      | some x => exact ht x hg
    simp [h1, h2]
theorem bigI_dig {n : Int} (h : n.natAbs < B ^ 8) : bigI (decide (n < 0)) (dig n.natAbs) = n := by
  unfold bigI
  rw [if_pos (may_dig h), val_dig]
  unfold sgn
  by_cases hn : n < 0
  · simp [hn]; omega
  · simp [hn]; omega
end Go.Proofs.YtakahpbondaidaaGreatDoor.Bg
namespace Go.Proofs.YtakahpbondaidaaGreatDoor.Bg
open Go.RowKit


theorem limb_c (A : Option Addr) (xs : List Nat) (c k : Nat) (w : World) (h : Lim w A xs) :
    Calls Tryz.prog 246 #[.slice A xs.length c, .int .i64 k] w fun e w' => e = .returned (.int .u32 (lim xs k : Nat)) ∧ w = w' := by
  by_cases hlt : k < xs.length
  · obtain ⟨ad, rfl, hc⟩ := h.at_ hlt
    go_enter Tryz.func246, Tryz.ntmps246
    go_wp2
    go_ret
    exact ⟨rfl, rfl⟩
  · rw [lim_out (by omega)]
    go_enter Tryz.func246, Tryz.ntmps246
    go_wp2
    go_ret
    exact ⟨rfl, rfl⟩
end Go.Proofs.YtakahpbondaidaaGreatDoor.Bg

namespace Go.Proofs.YtakahpbondaidaaGreatDoor.Bg
open Go.RowKit


/-- The limbs from k on are zeros. -/
def Zer (xs : List Nat) (k : Nat) : Prop := ∀ i, k ≤ i → i < xs.length → xs[i]? = some 0
theorem Zer.all (xs : List Nat) : Zer xs xs.length := fun i h1 h2 => absurd h2 (by omega)
theorem Zer.down {xs : List Nat} {k : Nat} (h : Zer xs (k + 1)) (hz : lim xs k = 0) : Zer xs k := fun i h1 h2 => by
  by_cases e : i = k
  · subst e
    rw [List.getElem?_eq_getElem h2, ← lim_in h2, hz]
  · exact h i (by omega) h2
theorem trim_k {xs : List Nat} {k : Nat} (ho : okL xs) (hk : k ≤ xs.length) (h : Zer xs k) (ht : k = 0 ∨ lim xs (k - 1) ≠ 0) : xs.take k = dig (val xs) := dig_take ho h ht hk
theorem cast_ne {a : Nat} (h : a ≠ 0) : ((a : Int) == 0) = false := by simpa using h
theorem cast_eq {a : Nat} (h : a = 0) : ((a : Int) == 0) = true := by subst h; rfl

set_option maxHeartbeats 1000000 in
theorem trim_c (A : Option Addr) (xs : List Nat) (c : Nat) (w : World) (h : Lim w A xs) (hl : xs.length ≤ c) (hc : c ≤ 9223372036854775807) :
    Calls Tryz.prog 186 #[.slice A xs.length c] w fun e w' => e = .returned (.slice A (dig (val xs)).length c) ∧ w = w' := by
  go_enter Tryz.func186, Tryz.ntmps186
  go_wp2
  go_loop [3] (fun s => ∃ k : Nat, k ≤ xs.length ∧ s = .int .i64 k ∧ Zer xs k) (fun s => (intOf s).toNat)
  case atStart => exact ⟨xs.length, Nat.le_refl _, rfl, Zer.all xs⟩
  case round =>
    obtain ⟨k, hk, rfl, hz⟩ := hrel
    by_cases h0 : 0 < k
    · obtain ⟨ad, rfl, hcell⟩ := h.at_ (k := k - 1) (by omega)
      have e1 : ((k : Int) - 1).toNat = k - 1 := by omega
      by_cases hv : lim xs (k - 1) = 0
      · have hb := cast_eq hv
        go_wp2
        go_round
        case rel => exact ⟨k - 1, by omega, by rw [show ((k - 1 : Nat) : Int) = (k : Int) - 1 by omega], Zer.down (by rw [show k - 1 + 1 = k by omega]; exact hz) hv⟩
        case measure => simp [intOf]; omega
      · have hb := cast_ne hv
        have HK := Lib.hid (trim_k h.1 hk hz (.inr hv))
        have HL : Hid ((dig (val xs)).length = k) := by rw [← HK.out, List.length_take, Nat.min_eq_left hk]; exact rfl
        go_wp2
        go_ret
        exact ⟨by rw [HL.out]; rfl, rfl⟩
    · obtain rfl : k = 0 := by omega
      have HK := Lib.hid (trim_k h.1 hk hz (.inl rfl))
      have HL : Hid ((dig (val xs)).length = 0) := by rw [← HK.out, List.length_take, Nat.min_eq_left hk]; exact rfl
      go_wp2
      go_ret
      exact ⟨by rw [HL.out]; rfl, rfl⟩
end Go.Proofs.YtakahpbondaidaaGreatDoor.Bg

namespace Go.Proofs.YtakahpbondaidaaGreatDoor.Bg
open Go.RowKit


theorem trim_ex (xs : List Nat) : ∀ k, k ≤ xs.length → Zer xs k → ∃ j, j ≤ k ∧ Zer xs j ∧ (j = 0 ∨ lim xs (j - 1) ≠ 0)
  | 0, _, h => ⟨0, Nat.le_refl _, h, .inl rfl⟩
  | k + 1, hk, h => by
    by_cases hv : lim xs k = 0
    · obtain ⟨j, h1, h2, h3⟩ := trim_ex xs k (by omega) (h.down hv)
      exact ⟨j, by omega, h2, h3⟩
    · exact ⟨k + 1, Nat.le_refl _, h, .inr (by simpa using hv)⟩
theorem dig_head {xs : List Nat} (ho : okL xs) : xs.take (dig (val xs)).length = dig (val xs) ∧ (dig (val xs)).length ≤ xs.length := by
  obtain ⟨j, h1, h2, h3⟩ := trim_ex xs xs.length (Nat.le_refl _) (Zer.all xs)
  have e := trim_k ho h1 h2 h3
  have el : (dig (val xs)).length = j := by rw [← e, List.length_take, Nat.min_eq_left h1]
  rw [el]
  exact ⟨e, h1⟩
theorem Lim.dig {w : World} {A : Option Addr} {xs : List Nat} (h : Lim w A xs) : Lim w A (dig (val xs)) := by
  rw [← (dig_head h.1).1]
  exact h.take _
theorem dig_len_zero {n : Nat} : (((dig n).length : Int) == 0) = (n == 0) := by
  by_cases h : n = 0
  · subst h; rw [dig_zero]; rfl
  · have e : (dig n).length = (dig (n / B)).length + 1 := by rw [dig_pos h]; rfl
    have e1 : (((dig n).length : Int) == 0) = false := by rw [e]; simp; omega
    have e2 : (n == 0) = false := by simpa using h
    rw [e1, e2]

theorem isZero_c (A : Option Addr) (xs : List Nat) (c : Nat) (w : World) (h : Lim w A xs) (hl : xs.length ≤ c) (hc : c ≤ 9223372036854775807) :
    Calls Tryz.prog 119 #[.slice A xs.length c] w fun e w' => e = .returned (.bool (val xs == 0)) ∧ w = w' := by
  have HZ := Lib.hid (dig_len_zero (n := val xs))
  go_enter Tryz.func119, Tryz.ntmps119
  go_wp2_with (go_at_call 186; refine (trim_c _ _ _ _ h hl hc).mono ?_; rintro e w1 ⟨rfl, rfl⟩)
  go_ret
  exact ⟨by rw [← HZ.out]; rfl, rfl⟩

set_option maxHeartbeats 1000000 in
theorem compare_c (A C : Option Addr) (xs ys : List Nat) (c d : Nat) (w : World) (h : Lim w A xs) (k : Lim w C ys) (hl : xs.length ≤ 1152921504606846976) (kl : ys.length ≤ 1152921504606846976) :
    Calls Tryz.prog 206 #[.slice A xs.length c, .slice C ys.length d] w fun e w' => e = .returned (.int .i64 (cmpI (val xs) (val ys))) ∧ w = w' := by
  by_cases hlt : xs.length < ys.length
  all_goals
    go_enter Tryz.func206, Tryz.ntmps206
    go_wp2
    go_step3
    go_wp2
    go_step3
    go_wp2
    go_loop [5] (fun s => ∃ m : Nat, m ≤ 1152921504606846976 ∧ s = .int .i64 (m - 1 : Int) ∧ CmpAt xs ys m) (fun s => (intOf s + 1).toNat)
    case atStart => first | exact ⟨ys.length, kl, rfl, CmpAt.top (by omega) (by omega)⟩ | exact ⟨xs.length, hl, rfl, CmpAt.top (by omega) (by omega)⟩
    case round =>
      obtain ⟨m, hm, rfl, hz⟩ := hrel
      rcases m with _ | m
      · have HE := Lib.hid (cmpI_eq hz.zero)
        go_wp2
        first | rw [Exit.noGoto_ret] | skip
        go_ret
        exact ⟨by rw [HE.out]; rfl, rfl⟩
      · have em : ((m + 1 : Nat) : Int) - 1 = m := by omega
        rw [em]
        rcases Nat.lt_trichotomy (lim xs m) (lim ys m) with hv | hv | hv
        · have HE := Lib.hid (cmpI_lt (hz.less h.1 hv))
          have b1 : ((lim xs m : Int) == (lim ys m : Int)) = false := by simp; omega
          have b2 : decide ((lim xs m : Int) < (lim ys m : Int)) = true := by simp [hv]
          have b3 : decide (lim xs m < lim ys m) = true := by simp [hv]
          go_wp2_with (first | (go_at_call_of 246 (Value.slice A xs.length c); refine (limb_c A xs c m _ h).mono ?_; rintro e w1 ⟨rfl, rfl⟩) | (go_at_call_of 246 (Value.slice C ys.length d); refine (limb_c C ys d m _ k).mono ?_; rintro e w1 ⟨rfl, rfl⟩))
          rw [Exit.noGoto_ret]
          go_ret
          exact ⟨by rw [HE.out]; rfl, rfl⟩
        · have HS := Lib.hid (hz.same hv)
          have b1 : ((lim xs m : Int) == (lim ys m : Int)) = true := by simp [hv]
          go_wp2_with (first | (go_at_call_of 246 (Value.slice A xs.length c); refine (limb_c A xs c m _ h).mono ?_; rintro e w1 ⟨rfl, rfl⟩) | (go_at_call_of 246 (Value.slice C ys.length d); refine (limb_c C ys d m _ k).mono ?_; rintro e w1 ⟨rfl, rfl⟩))
          go_round
          case rel => exact ⟨m, by omega, rfl, HS.out⟩
          case measure => simp [intOf]
        · have HE := Lib.hid (cmpI_gt (hz.swap.less k.1 hv))
          have b1 : ((lim xs m : Int) == (lim ys m : Int)) = false := by simp; omega
          have b2 : decide ((lim xs m : Int) < (lim ys m : Int)) = false := by simp; omega
          have b3 : decide (lim xs m < lim ys m) = false := by simp; omega
          go_wp2_with (first | (go_at_call_of 246 (Value.slice A xs.length c); refine (limb_c A xs c m _ h).mono ?_; rintro e w1 ⟨rfl, rfl⟩) | (go_at_call_of 246 (Value.slice C ys.length d); refine (limb_c C ys d m _ k).mono ?_; rintro e w1 ⟨rfl, rfl⟩))
          rw [Exit.noGoto_ret]
          go_ret
          exact ⟨by rw [HE.out]; rfl, rfl⟩
end Go.Proofs.YtakahpbondaidaaGreatDoor.Bg
namespace Go.Proofs.YtakahpbondaidaaGreatDoor.Bg
open Go.RowKit


theorem info53_ : (Tryz.prog.info? 69).map (fun i => (i.zero, i.size, i.bytes)) = some (some (.int .u32 0), 1, 4) := by kernel_rfl
/-- A new slice of at most L limbs, with the number V. -/
def NewL (L V : Nat) (w : World) (e : Ending) (w' : World) : Prop :=
  ∃ (g : Nat) (os : List Nat), e = .returned (.slice (some ⟨g, 0, none⟩) os.length os.length) ∧ w.heap.size ≤ g ∧ Own w' g os ∧ val os = V ∧ os.length ≤ L ∧ Below w.heap.size w w'
theorem zeros_cells (n : Nat) : madeCells #[.int .u32 0] n = Array.replicate n (.int .u32 0) := by
  apply Array.ext'
  rw [toList_madeCells_one]
  simp
theorem lim_i {xs : List Nat} (h : okL xs) (k : Nat) : (0 : Int) ≤ (lim xs k : Nat) ∧ ((lim xs k : Nat) : Int) < 4294967296 := by
  have := lim_lt h k
  have e := B_eq
  omega
theorem set_here {os : List Nat} {k n v : Nat} (h : os.length = k) (hk : k < n) : (os ++ List.replicate (n - k) 0).set k v = (os ++ [v]) ++ List.replicate (n - (k + 1)) 0 := by
  have e : n - k = (n - (k + 1)) + 1 := by omega
  rw [e, List.replicate_succ, List.set_append_right _ _ (by omega), h, Nat.sub_self, List.set_cons_zero]
  simp
def SumRel (xs ys : List Nat) (g n : Nat) (w : World) (s6 s18 : Value) (wr : World) : Prop :=
  ∃ (k : Nat) (os : List Nat) (c : Nat), k ≤ n ∧ s6 = .int .u64 c ∧ s18 = .int .i64 k ∧ SumAt xs ys k os c ∧ Own wr g (os ++ List.replicate (n - k) 0) ∧ Below w.heap.size w wr
theorem SumRel.step {xs ys : List Nat} {g n k c : Nat} {os : List Nat} {w wr : World} (hx : okL xs) (hy : okL ys) (hk : k < n) (hS : SumAt xs ys k os c) (hO : Own wr g (os ++ List.replicate (n - k) 0)) (hB : Below w.heap.size w wr) (hg : w.heap.size ≤ g) :
    SumRel xs ys g n w (.int .u64 (((lim xs k : Nat) + (lim ys k : Nat) + (c : Nat) : Int) / 4294967296)) (.int .i64 ((k : Int) + 1)) (wr.setCell ⟨g, k, none⟩ (.int .u32 (((lim xs k : Nat) + (lim ys k : Nat) + (c : Nat) : Int) % 4294967296))) := by
  have e1 : (((lim xs k : Nat) + (lim ys k : Nat) + (c : Nat) : Int) / 4294967296) = (((lim xs k + lim ys k + c) / B : Nat) : Int) := by rw [B_eq]; omega
  have e2 : (((lim xs k : Nat) + (lim ys k : Nat) + (c : Nat) : Int) % 4294967296) = (((lim xs k + lim ys k + c) % B : Nat) : Int) := by rw [B_eq]; omega
  rw [e1, e2]
  refine ⟨k + 1, _, _, by omega, rfl, by rw [show ((k + 1 : Nat) : Int) = (k : Int) + 1 by omega], hS.succ hx hy, ?_, hB.setCell hg _⟩
  rw [← set_here hS.len hk]
  exact hO.set (by rw [List.length_append, List.length_replicate, hS.len]; omega) (Nat.mod_lt _ B_pos)

end Go.Proofs.YtakahpbondaidaaGreatDoor.Bg

namespace Go.Proofs.YtakahpbondaidaaGreatDoor.Bg
open Go.RowKit


theorem Lim.grown' {w w' : World} {A : Option Addr} {xs : List Nat} (h : Lim w A xs) {row : Option Nat} (hg : w.grownBy w' row) (hr : 0 < xs.length → ∀ ad, A = some ad → some ad.block ≠ row) : Lim w' A xs := by
  by_cases h0 : 0 < xs.length
  · exact h.grown hg (hr h0)
  · have : xs = [] := List.eq_nil_of_length_eq_zero (by omega)
    subst this
    exact Lim.nil
/-- Of old memory block g alone may have turned: it holds os now. -/
def Subbed (g : Nat) (xs ys : List Nat) (w : World) (e : Ending) (w' : World) : Prop :=
  ∃ os, e = .returned (.tuple #[]) ∧ Own w' g os ∧ val os + val ys = val xs ∧ os.length = xs.length ∧ w.grownBy w' (some g)
def SubRel (xs ys : List Nat) (g : Nat) (w : World) (s4 s9 : Value) (wr : World) : Prop :=
  ∃ (k : Nat) (os : List Nat) (c : Nat), k ≤ xs.length ∧ s4 = .int .u64 c ∧ s9 = .int .i64 k ∧ SubAt xs ys k os c ∧ Own wr g os ∧ w.grownBy wr (some g)
theorem SubRel.step {xs ys : List Nat} {g k c n : Nat} {os : List Nat} {w wr : World} (hx : okL xs) (hy : okL ys) (hk : k < xs.length) (hS : SubAt xs ys k os c) (hO : Own wr g os) (hB : w.grownBy wr (some g)) :
    SubRel xs ys g w (.int .u64 (1 - (4294967296 + (lim xs k : Nat) - (lim ys k : Nat) - (c : Nat) : Int) / 4294967296)) (.int .i64 ((k : Int) + 1)) ((wr.drewN n).setCell ⟨g, k, none⟩ (.int .u32 ((4294967296 + (lim xs k : Nat) - (lim ys k : Nat) - (c : Nat) : Int) % 4294967296))) := by
  have hc := hS.carry
  have x1 := lim_lt hx k
  have y1 := lim_lt hy k
  have eB := B_eq
  have e0 : (4294967296 + (lim xs k : Nat) - (lim ys k : Nat) - (c : Nat) : Int) = ((B + lim xs k - lim ys k - c : Nat) : Int) := by omega
  have e1 : 1 - ((B + lim xs k - lim ys k - c : Nat) : Int) / 4294967296 = ((1 - (B + lim xs k - lim ys k - c) / B : Nat) : Int) := by
    have : (B + lim xs k - lim ys k - c) / B ≤ 1 := by rw [Nat.div_le_iff_le_mul_add_pred B_pos]; omega
    have h2 : ((B + lim xs k - lim ys k - c : Nat) : Int) / 4294967296 = (((B + lim xs k - lim ys k - c) / B : Nat) : Int) := by rw [B_eq]; omega
    rw [h2]; omega
  have e2 : ((B + lim xs k - lim ys k - c : Nat) : Int) % 4294967296 = (((B + lim xs k - lim ys k - c) % B : Nat) : Int) := by rw [B_eq]; omega
  rw [e0, e1, e2]
  exact ⟨k + 1, _, _, by omega, rfl, by rw [show ((k + 1 : Nat) : Int) = (k : Int) + 1 by omega], hS.succ hx hy hk, (hO.drewN n).set (by rw [hS.len]; exact hk) (Nat.mod_lt _ B_pos), grown_trans (grown_drewN hB n) (grown_set _ _ _ _)⟩

end Go.Proofs.YtakahpbondaidaaGreatDoor.Bg

namespace Go.Proofs.YtakahpbondaidaaGreatDoor.Bg
open Go.RowKit


def Grown (g : Nat) (xs : List Nat) (q m : Nat) (w : World) (e : Ending) (w' : World) : Prop :=
  ∃ (os : List Nat) (c : Nat), e = .returned (.int .u32 c) ∧ Own w' g os ∧ val os + B ^ xs.length * c = val xs * q + m ∧ os.length = xs.length ∧ c < B ∧ w.grownBy w' (some g)
def GrowRel (xs : List Nat) (q m g : Nat) (w : World) (s7 s15 : Value) (wr : World) : Prop :=
  ∃ (k : Nat) (os : List Nat) (c : Nat), k ≤ xs.length ∧ s7 = .int .u64 c ∧ s15 = .int .i64 k ∧ GrowAt xs q m k os c ∧ Own wr g os ∧ w.grownBy wr (some g)
theorem mul_i {x q : Nat} (hx : x < B) (hq : q < B) : (0 : Int) ≤ (x : Int) * (q : Int) ∧ (x : Int) * (q : Int) ≤ 18446744065119617025 := by
  have h : x * q ≤ (B - 1) * (B - 1) := Nat.mul_le_mul (by omega) (by omega)
  have e : (B - 1) * (B - 1) = 18446744065119617025 := rfl
  have c : ((x * q : Nat) : Int) = (x : Int) * (q : Int) := Int.natCast_mul x q
  omega
theorem GrowRel.step {xs : List Nat} {q m g k c : Nat} {os : List Nat} {w wr : World} (hx : okL xs) (hq : q < B) (hk : k < xs.length) (hS : GrowAt xs q m k os c) (hO : Own wr g os) (hB : w.grownBy wr (some g)) :
    GrowRel xs q m g w (.int .u64 (((lim xs k : Nat) * (q : Nat) + (c : Nat) : Int) / 4294967296)) (.int .i64 ((k : Int) + 1)) (wr.setCell ⟨g, k, none⟩ (.int .u32 (((lim xs k : Nat) * (q : Nat) + (c : Nat) : Int) % 4294967296))) := by
  have e0 : ((lim xs k : Nat) * (q : Nat) + (c : Nat) : Int) = ((lim xs k * q + c : Nat) : Int) := by rw [Int.natCast_add, Int.natCast_mul]
  have e1 : ((lim xs k * q + c : Nat) : Int) / 4294967296 = (((lim xs k * q + c) / B : Nat) : Int) := by rw [B_eq]; omega
  have e2 : ((lim xs k * q + c : Nat) : Int) % 4294967296 = (((lim xs k * q + c) % B : Nat) : Int) := by rw [B_eq]; omega
  rw [e0, e1, e2]
  exact ⟨k + 1, _, _, by omega, rfl, by rw [show ((k + 1 : Nat) : Int) = (k : Int) + 1 by omega], hS.succ hx hq hk, hO.set (by rw [hS.len]; exact hk) (Nat.mod_lt _ B_pos), grown_trans hB (grown_set _ _ _ _)⟩

set_option maxHeartbeats 1000000 in
theorem grow_c (g : Nat) (xs : List Nat) (c q m : Nat) (w : World) (h : Own w g xs) (hq : q < B) (hm : m < B) (hl : xs.length ≤ 1048576) :
    Calls Tryz.prog 242 #[.slice (some ⟨g, 0, none⟩) xs.length c, .int .u32 q, .int .u32 m] w (Grown g xs q m w) := by
  have q0 : (q : Int) < 4294967296 := by have := B_eq; omega
  have m0 : (m : Int) < 4294967296 := by have := B_eq; omega
  go_enter Tryz.func242, Tryz.ntmps242
  go_wp2
  go_loopw [7, 15] (GrowRel xs q m g w) (fun _ s15 _ => ((xs.length : Int) - intOf s15).toNat)
  case atStart => exact ⟨0, xs, m, by omega, rfl, rfl, GrowAt.zero h.1 q hm, h, grown_refl w _⟩
  case round =>
    obtain ⟨j, os, cy, hj, rfl, rfl, hS, hO, hB⟩ := hrel
    by_cases hlt2 : j < xs.length
    · obtain ⟨x0, x1⟩ := lim_i h.1 j
      obtain ⟨p0, p1⟩ := mul_i (lim_lt h.1 j) hq
      have hcy : (cy : Int) < 4294967296 := by have := hS.carry; have := B_eq; omega
      have hjo : j < os.length := by rw [hS.len]; exact hlt2
      have hlx : lim os j = lim xs j := lim_rest (hS.rest j (Nat.le_refl _))
      have hcell := hO.cell hjo
      rw [hlx] at hcell
      have hfro := hO.frozen j
      have HS := Lib.hid hS
      have HO := Lib.hid hO
      clear hS hO hlx hjo hm
      go_wp2
      go_roundw
      case rel => exact GrowRel.step h.1 hq hlt2 HS.out HO.out hB
      case measure => simp [intOf]; omega
    · obtain rfl : j = xs.length := by omega
      have hcy : (cy : Int) < 4294967296 := by have := hS.carry; have := B_eq; omega
      have HD := Lib.hid hS.done
      have HO := Lib.hid hO
      have HL := Lib.hid hS.len
      have HC := Lib.hid hS.carry
      clear hS hO hm
      go_wp2
      go_ret
      exact ⟨os, cy, rfl, HO.out, HD.out, HL.out, HC.out, hB⟩

theorem or_add (r x : Nat) (hx : x < B) : (r * 4294967296 ||| x) = B * r + x := by
  have h := Nat.two_pow_add_eq_or_of_lt (i := 32) (b := x) (by rw [← B_two]; exact hx) r
  rw [B_two, Nat.mul_comm r]
  exact h.symm
theorem shr_i {r x q : Nat} (hx : x < B) (hr : r < q) (hq : q < B) :
    bits BinOp.or IntKind.u64 ((r : Int) * 4294967296) (x : Int) = ((B * r + x : Nat) : Int) ∧ (0 : Int) ≤ ((B * r + x : Nat) : Int) / (q : Int) ∧ ((B * r + x : Nat) : Int) / (q : Int) < 4294967296 ∧ (0 : Int) ≤ ((B * r + x : Nat) : Int) % (q : Int) ∧ ((B * r + x : Nat) : Int) % (q : Int) < 4294967296 := by
  have eB := B_eq
  have q0 : 0 < q := by omega
  refine ⟨?_, ?_, ?_, ?_, ?_⟩
  · have e : (r : Int) * 4294967296 = ((r * 4294967296 : Nat) : Int) := by omega
    rw [e, u64_or_nat _ _ (by omega) (by omega), or_add r x hx]
  · rw [← Int.natCast_ediv]; exact Int.natCast_nonneg _
  · rw [← Int.natCast_ediv]
    have : (B * r + x) / q < B := by
      rw [Nat.div_lt_iff_lt_mul q0]
      have h2 : B * (r + 1) ≤ B * q := Nat.mul_le_mul_left _ hr
      rw [Nat.mul_succ] at h2
      omega
    omega
  · rw [← Int.natCast_emod]; exact Int.natCast_nonneg _
  · rw [← Int.natCast_emod]
    have := Nat.mod_lt (B * r + x) q0
    omega
def Shrunk (g : Nat) (xs : List Nat) (q : Nat) (w : World) (e : Ending) (w' : World) : Prop :=
  ∃ (os : List Nat), e = .returned (.int .u32 (val xs % q : Nat)) ∧ Own w' g os ∧ val os = val xs / q ∧ os.length = xs.length ∧ w.grownBy w' (some g)
def ShrinkRel (xs : List Nat) (q g : Nat) (w : World) (s5 s6 : Value) (wr : World) : Prop :=
  ∃ (k : Nat) (os : List Nat) (r : Nat), k ≤ xs.length ∧ s5 = .int .u64 r ∧ s6 = .int .i64 (k - 1 : Int) ∧ ShrinkAt xs q k os r ∧ Own wr g os ∧ w.grownBy wr (some g)
theorem ShrinkRel.step {xs : List Nat} {q g k r st : Nat} {os : List Nat} {w wr : World} (hx : okL xs) (hq : q < B) (hk : k < xs.length) (hst : B * r + lim xs k = st) (hS : ShrinkAt xs q (k + 1) os r) (hO : Own wr g os) (hB : w.grownBy wr (some g)) :
    ShrinkRel xs q g w (.int .u64 ((st : Int) % (q : Int))) (.int .i64 ((k : Int) - 1)) (wr.setCell ⟨g, k, none⟩ (.int .u32 ((st : Int) / (q : Int)))).drew := by
  subst hst
  have hS' := hS.succ hx (Nat.le_of_lt hq) hk
  rw [← Int.natCast_ediv, ← Int.natCast_emod]
  have hv : (B * r + lim xs k) / q < B := by
    have q0 : 0 < q := Nat.lt_of_le_of_lt (Nat.zero_le _) hS.rest
    rw [Nat.div_lt_iff_lt_mul q0]
    have h2 : B * (r + 1) ≤ B * q := Nat.mul_le_mul_left _ hS.rest
    have h3 := lim_lt hx k
    rw [Nat.mul_succ] at h2
    omega
  exact ⟨k, _, _, by omega, rfl, rfl, hS', (hO.set (by rw [hS.len]; exact hk) hv).drew, grown_drew (grown_trans hB (grown_set _ _ _ _))⟩

set_option maxHeartbeats 1000000 in
theorem shrink_c (g : Nat) (xs : List Nat) (c q : Nat) (w : World) (h : Own w g xs) (hq : q < B) (q0 : 0 < q) (hl : xs.length ≤ 1048576) :
    Calls Tryz.prog 120 #[.slice (some ⟨g, 0, none⟩) xs.length c, .int .u32 q] w (Shrunk g xs q w) := by
  have q1 : (q : Int) < 4294967296 := by have := B_eq; omega
  go_enter Tryz.func120, Tryz.ntmps120
  go_wp2
  go_loopw [5, 6] (ShrinkRel xs q g w) (fun _ s6 _ => (intOf s6 + 1).toNat)
  case atStart => exact ⟨xs.length, xs, 0, by omega, rfl, rfl, ShrinkAt.top h.1 q0, h, grown_refl w _⟩
  case round =>
    obtain ⟨j, os, r, hj, rfl, rfl, hS, hO, hB⟩ := hrel
    rcases j with _ | j
    · have hr : (r : Int) < 4294967296 := by have := hS.rest; have := B_eq; omega
      obtain ⟨hv, rfl⟩ := hS.quo
      have HV := Lib.hid hv
      have HO := Lib.hid hO
      have HL := Lib.hid hS.len
      clear hS hO hv
      go_wp2
      go_ret
      exact ⟨os, rfl, HO.out, HV.out, HL.out, hB⟩
    · rw [show ((j + 1 : Nat) : Int) - 1 = j by omega]
      obtain ⟨x0, x1⟩ := lim_i h.1 j
      have hr : (r : Int) < 4294967296 := by have := hS.rest; have := B_eq; omega
      have hjo : j < os.length := by rw [hS.len]; exact hj
      have hjx : j < xs.length := hj
      have hlx : lim os j = lim xs j := lim_rest (hS.low j (Nat.lt_succ_self _))
      have hcell := hO.cell hjo
      rw [hlx] at hcell
      have hfro := hO.frozen j
      have HS := Lib.hid hS
      have HO := Lib.hid hO
      obtain ⟨hor, d0, d1, t0, t1⟩ := shr_i (lim_lt h.1 j) hS.rest hq
      obtain ⟨st, hst⟩ : ∃ st, B * r + lim xs j = st := ⟨_, rfl⟩
      rw [hst] at hor d0 d1 t0 t1
      have HT := Lib.hid hst
      clear hS hO hlx hjo hst
      go_wp2
      clear hor
      have qz : ((q : Int) == 0) = false := by simp; omega
      go_region
      all_goals
        go_wp2
        go_roundw
        case rel => exact ShrinkRel.step h.1 hq hjx HT.out HS.out HO.out hB
        case measure => simp [intOf]
end Go.Proofs.YtakahpbondaidaaGreatDoor.Bg

namespace Go.Proofs.YtakahpbondaidaaGreatDoor.Bg
open Go.RowKit


def LimbRel (xs ys : List Nat) (i g : Nat) (w : World) (s8 s29 : Value) (wr : World) : Prop :=
  ∃ (k : Nat) (os : List Nat) (c : Nat), k ≤ ys.length ∧ s8 = .int .u64 c ∧ s29 = .int .i64 k ∧ LimbAt xs ys i k os c ∧ Own wr g os ∧ Below w.heap.size w wr
theorem LimbRel.step {xs ys : List Nat} {g i k c : Nat} {os : List Nat} {w wr : World} (hx : okL xs) (hy : okL ys) (hi : i < xs.length) (hk : k < ys.length) (hS : LimbAt xs ys i k os c) (hO : Own wr g os) (hB : Below w.heap.size w wr) (hg : w.heap.size ≤ g) :
    LimbRel xs ys i g w (.int .u64 (((lim xs i : Nat) * (lim ys k : Nat) + (lim os (i + k) : Nat) + (c : Nat) : Int) / 4294967296)) (.int .i64 ((k : Int) + 1)) (wr.setCell ⟨g, i + k, none⟩ (.int .u32 (((lim xs i : Nat) * (lim ys k : Nat) + (lim os (i + k) : Nat) + (c : Nat) : Int) % 4294967296))) := by
  have e0 : ((lim xs i : Nat) * (lim ys k : Nat) + (lim os (i + k) : Nat) + (c : Nat) : Int) = ((lim xs i * lim ys k + lim os (i + k) + c : Nat) : Int) := by rw [Int.natCast_add, Int.natCast_add, Int.natCast_mul]
  have e1 : ((lim xs i * lim ys k + lim os (i + k) + c : Nat) : Int) / 4294967296 = (((lim xs i * lim ys k + lim os (i + k) + c) / B : Nat) : Int) := by rw [B_eq]; omega
  have e2 : ((lim xs i * lim ys k + lim os (i + k) + c : Nat) : Int) % 4294967296 = (((lim xs i * lim ys k + lim os (i + k) + c) % B : Nat) : Int) := by rw [B_eq]; omega
  rw [e0, e1, e2]
  exact ⟨k + 1, _, _, by omega, rfl, by rw [show ((k + 1 : Nat) : Int) = (k : Int) + 1 by omega], hS.succ hx hy hi hk, hO.set (by rw [hS.len]; omega) (Nat.mod_lt _ B_pos), hB.setCell hg _⟩

end Go.Proofs.YtakahpbondaidaaGreatDoor.Bg

namespace Go.Proofs.YtakahpbondaidaaGreatDoor.Bg
open Go.RowKit


theorem grow_i (g : Nat) (xs : List Nat) (n c q m : Nat) (qi mi : Int) (w : World) (h : Own w g xs) (hn : n = xs.length) (hqi : qi = q) (hmi : mi = m) (hq : q < B) (hm : m < B) (hl : xs.length ≤ 1048576) :
    Calls Tryz.prog 242 #[.slice (some ⟨g, 0, none⟩) n c, .int .u32 qi, .int .u32 mi] w (Grown g xs q m w) := by
  subst hn hqi hmi
  exact grow_c g xs c q m w h hq hm hl
theorem cmpI_ge {a b : Nat} (h : b ≤ a) : ∃ z : Int, cmpI a b = z ∧ 0 ≤ z := by
  rcases Nat.lt_or_ge b a with h1 | h1
  · exact ⟨1, cmpI_gt h1, by decide⟩
  · exact ⟨0, cmpI_eq (by omega), by decide⟩
theorem orbit_i {l b : Nat} (hl : l < B) (hb : b < 32) : (0 : Int) ≤ 2 ^ b ∧ (2 : Int) ^ b < 4294967296 ∧ bits BinOp.or IntKind.u32 (l : Int) (2 ^ b) = ((l ||| 2 ^ b : Nat) : Int) := by
  have e : (2 : Int) ^ b = ((2 ^ b : Nat) : Int) := by rw [Int.natCast_pow]; rfl
  have h2 : 2 ^ b < 4294967296 := Nat.pow_lt_pow_right (by decide : 1 < 2) hb
  rw [e, u32_or_nat l (2 ^ b) hl h2]
  exact ⟨Int.natCast_nonneg _, Int.ofNat_lt.2 h2, rfl⟩
theorem Own.zeros' (w : World) (g n : Nat) (t : TypeId) (cs : Array Value) (hc : cs = Array.replicate n (.int .u32 0)) (hg : g = w.heap.size) : Own (w.alloc (.cells cs t)) g (List.replicate n 0) := by
  subst hg
  exact Own.zeros w n t cs hc
theorem compare_i (A C : Option Addr) (xs ys : List Nat) (n c d : Nat) (w : World) (h : Lim w A xs) (k : Lim w C ys) (hn : n = xs.length) (hl : xs.length ≤ 1152921504606846976) (kl : ys.length ≤ 1152921504606846976) :
    Calls Tryz.prog 206 #[.slice A n c, .slice C ys.length d] w fun e w' => e = .returned (.int .i64 (cmpI (val xs) (val ys))) ∧ w = w' := by
  subst hn
  exact compare_c A C xs ys c d w h k hl kl
theorem bit_i {l b : Nat} (h : l < B) : bits BinOp.and IntKind.u32 ((l : Int) / 2 ^ b) 1 = ((l / 2 ^ b % 2 : Nat) : Int) := by
  have e : (l : Int) / 2 ^ b = ((l / 2 ^ b : Nat) : Int) := by rw [Int.natCast_ediv, Int.natCast_pow]; rfl
  have hlt : l / 2 ^ b < 4294967296 := Nat.lt_of_le_of_lt (Nat.div_le_self _ _) h
  have h2 := u32_and_nat (l / 2 ^ b) 1 hlt (by omega)
  rw [e, show (1 : Int) = ((1 : Nat) : Int) from rfl, h2, Nat.and_one_is_mod]
theorem grow_zero {n R b Y c V : Nat} (h : V + B ^ (n + 1) * c = R * 2 + b) (hb : b < 2) (hR : R < Y) (hY : Y ≤ B ^ n) : V = 2 * R + b := by
  have hc : c = 0 := by
    rcases Nat.eq_zero_or_pos c with hz | hz
    · exact hz
    · have h1 := Nat.le_mul_of_pos_right (B ^ (n + 1)) hz
      have h2 : B ^ n * 2 ≤ B ^ (n + 1) := by rw [Nat.pow_succ]; exact Nat.mul_le_mul_left _ (by decide)
      omega
  subst hc
  omega
def DivRel (xs ys : List Nat) (g : Nat) (w : World) (s6 : Value) (wr : World) : Prop :=
  ∃ (j Q R : Nat) (os rs : List Nat), j ≤ xs.length * 32 ∧ s6 = .int .i64 (j - 1 : Int) ∧ DivAt (val xs) (val ys) j Q R ∧ Own wr g os ∧ os.length = xs.length ∧ val os = 2 ^ j * Q ∧ Own wr (g + 1) rs ∧ rs.length = ys.length + 1 ∧ val rs = R ∧ Below w.heap.size w wr
/-- Two new slices: the quotient, the rest. -/
def NewQR (L M Q R : Nat) (w : World) (e : Ending) (w' : World) : Prop :=
  ∃ (os rs : List Nat), e = .returned (.tuple #[.slice (some ⟨w.heap.size, 0, none⟩) os.length os.length, .slice (some ⟨w.heap.size + 1, 0, none⟩) rs.length rs.length]) ∧ Own w' w.heap.size os ∧ Own w' (w.heap.size + 1) rs ∧ val os = Q ∧ val rs = R ∧ os.length ≤ L ∧ rs.length ≤ M ∧ Below w.heap.size w w'

end Go.Proofs.YtakahpbondaidaaGreatDoor.Bg

namespace Go.Proofs.YtakahpbondaidaaGreatDoor.Bg
open Go.RowKit


theorem Own.two (w : World) (a b : Nat) (t : TypeId) (va vb : Int) (ha : va = a) (hb : vb = b) (h1 : a < B) (h2 : b < B) : Own (w.alloc (.cells #[.int .u32 va, .int .u32 vb] t)) w.heap.size [a, b] := by
  subst ha hb
  refine ⟨okL.cons h1 (okL.cons h2 okL_nil), _, t, heap_alloc_new w _, fun j hj => ?_⟩
  match j, hj with
  | 0, _ => rfl
  | 1, _ => rfl
theorem split_c (v : Nat) (hv : v < B * B) (w : World) : Calls Tryz.prog 104 #[.int .u64 v] w (NewL 2 v w) := by
  have hlt : (v : Int) ≤ 18446744073709551615 := by have : B * B = 18446744073709551616 := rfl; omega
  go_enter Tryz.func104, Tryz.ntmps104
  go_wp2
  go_ret
  have e1 : (v : Int) % 4294967296 = ((v % B : Nat) : Int) := by rw [B_eq]; omega
  have e2 : (v : Int) / 4294967296 = ((v / B : Nat) : Int) := by rw [B_eq]; omega
  refine ⟨w.heap.size, [v % B, v / B], rfl, Nat.le_refl _, Own.two w _ _ _ _ _ e1 e2 (Nat.mod_lt _ B_pos) (by rw [Nat.div_lt_iff_lt_mul B_pos]; exact hv), ?_, Nat.le_refl _, (Below.refl _ _).alloc (Nat.le_refl _) _⟩
  simp only [val, Nat.mul_zero, Nat.add_zero]
  exact Nat.mod_add_div v B

def u32s (xs : List Nat) : List Value := xs.map fun (x : Nat) => .int .u32 (x : Int)
theorem lim_of_own {w : World} {b : Nat} {v : Value} {os : List Nat} (ho : okL os) (h : w.ownsRow b 69 1 v os.length (u32s os)) : ∃ A c, v = .slice A os.length c ∧ os.length ≤ c ∧ c ≤ 9223372036854775807 ∧ Lim w A os := by
  rcases h.2 with ⟨rfl, h0⟩ | ⟨g, cap, cur, rfl, hb, hg, hl, hm, hs, ht⟩
  · have : os = [] := List.eq_nil_of_length_eq_zero h0
    subst this
    exact ⟨none, 0, rfl, Nat.le_refl _, by omega, Lim.nil⟩
  · refine ⟨some ⟨g, 0, none⟩, cap, rfl, hl, by unfold maxLen at hm; exact hm, ho, fun h0 => ⟨_, rfl, (Array.getElem?_eq_some_iff.1 hg).1, fun j hj => ?_⟩⟩
    rw [zero_add_addr, cell_of_row w g j cur 69 (0, 0) hg]
    have e : cur[j]? = cur.toList[j]? := by simp
    have e2 : (cur.toList.take (os.length * 1))[j]? = cur.toList[j]? := by rw [List.getElem?_take, if_pos (by omega)]
    rw [e, ← e2, ht]
    unfold u32s
    rw [List.getElem?_map, List.getElem?_eq_getElem hj, lim_in hj]
    rfl
theorem news1 (w : World) (u : Value) (t : TypeId) : ∀ j v, [u][j]? = some v → (w.alloc (.cells #[u] t)).cell? ((⟨w.heap.size, 0, none⟩ : Addr).add j) = some v := fun j v h => by
  rw [zero_add_addr, World.cell?_alloc_at _ _ _ _ rfl]
  simpa using h
theorem one_u32 (z : Int) : ∀ u ∈ [Value.int .u32 z], u.oneCell' = true := fun u h => by
  rw [List.mem_singleton] at h
  subst h
  rfl
def CutRel (n : Nat) (xs : List Nat) (w : World) (s5 s12 : Value) (wr : World) : Prop :=
  ∃ (k : Nat) (os : List Nat), k ≤ xs.length ∧ s12 = .int .i64 k ∧ okL os ∧ os.length = k ∧ val os = val xs % 2 ^ (min n (32 * k)) ∧ wr.ownsRow w.heap.size 69 1 s5 os.length (u32s os) ∧ Below w.heap.size w wr
theorem CutRel.step {n k x : Nat} {xs os : List Nat} {w wr w1 : World} {v v1 : Value} {o : Obj} (hk : k < xs.length) (hl : os.length = k) (ho : okL os) (hx : x < B) (hv : val (os ++ [x]) = val xs % 2 ^ (min n (32 * (k + 1))))
    (h0 : wr.ownsRow w.heap.size 69 1 v os.length (u32s os)) (h1 : w1.ownsRow w.heap.size 69 1 v1 (os.length + 1) (u32s os ++ [.int .u32 (x : Int)])) (hg : (wr.alloc o).grownBy w1 v.ownBlock) (hB : Below w.heap.size w wr) :
    CutRel n xs w v1 (.int .i64 ((k : Int) + 1)) w1 := by
  refine ⟨k + 1, os ++ [x], hk, by rw [show ((k + 1 : Nat) : Int) = (k : Int) + 1 by omega], ho.append (okL.cons hx okL_nil), by simp [hl], hv, ?_, (hB.alloc hB.size o).grown hg (by rw [World.size_alloc]; have := hB.size; omega) (fun j hj => (h0.lt j hj).1)⟩
  have e : (os ++ [x]).length = os.length + 1 := by simp
  have e2 : u32s (os ++ [x]) = u32s os ++ [.int .u32 (x : Int)] := by simp [u32s]
  rw [e, e2]
  exact h1
end Go.Proofs.YtakahpbondaidaaGreatDoor.Bg

namespace Go.Proofs.YtakahpbondaidaaGreatDoor.Bg
open Go.RowKit


/-- The number n is returned, its limbs lie in memory; what was there is as it was. -/
def RetBig (n : Int) (w : World) (e : Ending) (w' : World) : Prop :=
  ∃ (A : Option Addr) (c : Nat), e = .returned (.agg #[.bool (decide (n < 0)), .slice A (dig n.natAbs).length c]) ∧ (dig n.natAbs).length ≤ c ∧ c ≤ 9223372036854775807 ∧ Lim w' A (dig n.natAbs) ∧ Plus w w'
theorem Lim.plus {w : World} {A : Option Addr} {xs : List Nat} (h : Lim w A xs) {w' : World} (hp : Plus w w') : Lim w' A xs := h.below hp.below
theorem Lim.grow {w : World} {A : Option Addr} {xs : List Nat} (h : Lim w A xs) (x : More) : Lim (_root_.Go.Proofs.YtakahpbondaidaaGreatDoor.plus w x) A xs := h.plus ⟨x, rfl⟩
def _root_.Go.Proofs.YtakahpbondaidaaGreatDoor.More.add (x y : More) : More := ⟨x.blocks ++ y.blocks, y.draws⟩
theorem plus_add (w : World) (x y : More) : plus (plus w x) y = plus w (x.add y) := plus_plus w x y
/-- The result's own cells are no limbs: they may turn. -/
theorem Lim.res {w : World} {x : More} {A : Option Addr} {xs : List Nat} {b b' : Bool} {a a' : Option Addr} {n n' c c' : Nat} {t : TypeId} (h : Lim (_root_.Go.Proofs.YtakahpbondaidaaGreatDoor.plus (w.alloc (.cells #[.bool b, .slice a n c] t)) x) A xs) :
    Lim (_root_.Go.Proofs.YtakahpbondaidaaGreatDoor.plus (w.alloc (.cells #[.bool b', .slice a' n' c'] t)) x) A xs := by
  refine ⟨h.1, fun h0 => ?_⟩
  obtain ⟨ad, rfl, hb, hc⟩ := h.2 h0
  have hsz : ∀ o : Obj, (_root_.Go.Proofs.YtakahpbondaidaaGreatDoor.plus (w.alloc o) x).heap.size = w.heap.size + 1 + x.blocks.length := fun o => by rw [size_plus, World.size_alloc]
  have hold : ∀ (o : Obj) (k : Nat), k ≠ w.heap.size → (_root_.Go.Proofs.YtakahpbondaidaaGreatDoor.plus (w.alloc o) x).heap[k]? = if k < w.heap.size then w.heap[k]? else x.blocks[k - (w.heap.size + 1)]? := fun o k hk => by
    by_cases hlt : k < w.heap.size
    · rw [if_pos hlt, heap_plus_lt _ _ (by rw [World.size_alloc]; omega), Below.heap_alloc _ _ _ hlt]
    · rw [if_neg hlt]
      show ((w.alloc o).heap ++ x.blocks.toArray)[k]? = _
      rw [Array.getElem?_append_right (by rw [World.size_alloc]; omega), World.size_alloc]
      simp
  have hne : ad.block ≠ w.heap.size := fun e => by
    have h1 := hc 0 h0
    have h2 : (ad.add 0) = ad := by unfold Addr.add; rw [if_pos rfl]
    rw [h2] at h1
    have h3 : (_root_.Go.Proofs.YtakahpbondaidaaGreatDoor.plus (w.alloc (.cells #[.bool b, .slice a n c] t)) x).heap[ad.block]? = some (.cells #[.bool b, .slice a n c] t) := by
      rw [e, heap_plus_lt _ _ (by rw [World.size_alloc]; omega)]
      exact heap_alloc_new w _
    unfold World.cell? at h1
    rw [h3] at h1
    simp only at h1
    split at h1
    · cases h1
    · match hoff : ad.off with
      | 0 => rw [hoff] at h1; simp at h1
      | 1 => rw [hoff] at h1; simp at h1
      | k + 2 => rw [hoff] at h1; simp at h1
  refine ⟨ad, rfl, by rw [hsz] at hb ⊢; exact hb, fun j hj => ?_⟩
  rw [← hc j hj]
  apply World.cell?_of_block
  rw [block_of_add, hold _ _ hne, hold _ _ hne]
theorem Lim.res2 {w : World} {x y : More} {A : Option Addr} {xs : List Nat} {b b' : Bool} {a a' : Option Addr} {n n' c c' : Nat} {t : TypeId} (h : Lim (_root_.Go.Proofs.YtakahpbondaidaaGreatDoor.plus (_root_.Go.Proofs.YtakahpbondaidaaGreatDoor.plus (w.alloc (.cells #[.bool b, .slice a n c] t)) x) y) A xs) :
    Lim (_root_.Go.Proofs.YtakahpbondaidaaGreatDoor.plus (_root_.Go.Proofs.YtakahpbondaidaaGreatDoor.plus (w.alloc (.cells #[.bool b', .slice a' n' c'] t)) x) y) A xs := by
  rw [plus_add] at h ⊢
  exact h.res
theorem Lim.res3 {w : World} {x y z : More} {A : Option Addr} {xs : List Nat} {b b' : Bool} {a a' : Option Addr} {n n' c c' : Nat} {t : TypeId} (h : Lim (_root_.Go.Proofs.YtakahpbondaidaaGreatDoor.plus (_root_.Go.Proofs.YtakahpbondaidaaGreatDoor.plus (_root_.Go.Proofs.YtakahpbondaidaaGreatDoor.plus (w.alloc (.cells #[.bool b, .slice a n c] t)) x) y) z) A xs) :
    Lim (_root_.Go.Proofs.YtakahpbondaidaaGreatDoor.plus (_root_.Go.Proofs.YtakahpbondaidaaGreatDoor.plus (_root_.Go.Proofs.YtakahpbondaidaaGreatDoor.plus (w.alloc (.cells #[.bool b', .slice a' n' c'] t)) x) y) z) A xs := by
  rw [plus_add, plus_add] at h ⊢
  exact h.res
theorem sgn_neg {neg : Bool} {m : Nat} (h : m ≠ 0) : decide (sgn neg m < 0) = neg := by
  cases neg <;> simp [sgn]
  omega
theorem dig_ne {m : Nat} (h : m ≠ 0) : (dig m).length ≠ 0 := fun e => h (dig_inj (by rw [List.eq_nil_of_length_eq_zero e, dig_zero]))

set_option maxHeartbeats 1000000 in
theorem made_c (neg : Bool) (A : Option Addr) (xs : List Nat) (n c : Nat) (w : World) (h : Lim w A xs) (hn : n = xs.length) (hl : xs.length ≤ c) (hc : c ≤ 9223372036854775807) :
    Calls Tryz.prog 103 #[.bool neg, .slice A n c] w (RetBig (sgn neg (val xs)) w) := by
  subst hn
  obtain ⟨m, hm⟩ : ∃ m, val xs = m := ⟨_, rfl⟩
  have hL := h.dig
  have hd := (dig_head h.1).2
  rw [hm] at hL hd
  by_cases h0 : m = 0
  · have e1 : (dig m).length = 0 := by rw [h0, dig_zero]; rfl
    have HM := Lib.hid hm; clear hm
    go_enter Tryz.func103, Tryz.ntmps103
    go_wp2_with (go_at_call 186; refine (trim_c _ _ _ _ (h.alloc _) hl hc).mono ?_; rintro e w1 ⟨rfl, rfl⟩; rw [HM.out, e1])
    go_returns
    subst h0
    rw [HM.out]
    refine ⟨none, 0, ?_, by rw [sgn_abs]; exact Nat.le_of_eq e1, by omega, by rw [sgn_abs, dig_zero]; exact Lim.nil, (Plus.refl _).alloc _⟩
    rw [sgn_abs, e1]
    cases neg <;> rfl
  · obtain ⟨L, hlen⟩ : ∃ L, (dig m).length = L := ⟨_, rfl⟩
    have hL0 : ((L : Int) == 0) = false := by rw [← hlen]; exact cast_ne (dig_ne h0)
    have HM := Lib.hid hm; clear hm
    have HL := Lib.hid hlen; clear hlen
    go_enter Tryz.func103, Tryz.ntmps103
    go_wp2_with (go_at_call 186; refine (trim_c _ _ _ _ (h.alloc _) hl hc).mono ?_; rintro e w1 ⟨rfl, rfl⟩; rw [HM.out, HL.out])
    go_returns
    rw [HM.out]
    refine ⟨A, c, ?_, by rw [sgn_abs]; exact Nat.le_trans hd hl, hc, by rw [sgn_abs]; exact hL.alloc _, (Plus.refl _).alloc _⟩
    rw [sgn_abs, sgn_neg h0, HL.out]

/-- A number or, if it has too many limbs, zero and false. -/
def RetBigOk (n : Int) (w : World) (e : Ending) (w' : World) : Prop :=
  ∃ (A : Option Addr) (c : Nat) (m : Int) (ok : Bool), e = .returned (.tuple #[.agg #[.bool (decide (m < 0)), .slice A (dig m.natAbs).length c], .bool ok]) ∧ ok = decide (n.natAbs < B ^ 8) ∧ m = (if n.natAbs < B ^ 8 then n else 0) ∧ (dig m.natAbs).length ≤ c ∧ c ≤ 9223372036854775807 ∧ Lim w' A (dig m.natAbs) ∧ Plus w w'
theorem dig_long {m : Nat} : (dig m).length ≤ 8 ↔ m < B ^ 8 := ⟨lt_of_dig_len, dig_len_le⟩

end Go.Proofs.YtakahpbondaidaaGreatDoor.Bg

namespace Go.Proofs.YtakahpbondaidaaGreatDoor.Bg
open Go.RowKit


set_option maxHeartbeats 1000000 in
theorem may_c (neg : Bool) (A : Option Addr) (xs : List Nat) (n c : Nat) (w : World) (h : Lim w A xs) (hn : n = xs.length) (hl : xs.length ≤ 1152921504606846976) :
    Calls Tryz.prog 176 #[.agg #[.bool neg, .slice A n c]] w fun e w' => e = .returned (.bool (mayL neg xs)) ∧ Plus w w' := by
  subst hn
  by_cases h0 : xs.length = 0
  · have HM : Hid (mayL neg xs = !neg) := Lib.hid (by unfold mayL; rw [if_pos h0])
    rw [h0]
    go_enter Tryz.func176, Tryz.ntmps176
    go_wp2
    go_ret
    exact ⟨by rw [HM.out]; rfl, (Plus.refl _).alloc _⟩
  · have h0b : ((xs.length : Int) == 0) = false := by simpa using h0
    by_cases h8 : xs.length ≤ 8
    · have h8b : decide ((xs.length : Int) ≤ 8) = true := by simp; omega
      obtain ⟨ad, rfl, hcell⟩ := h.at_ (k := xs.length - 1) (by omega)
      have e1 : ((xs.length : Int) - 1).toNat = xs.length - 1 := by omega
      have e2 : (xs.length : Int) - 1 < (xs.length : Int) := by omega
      have hcw : ∀ o : Obj, (w.alloc o).cell? (ad.add (xs.length - 1)) = some (.int .u32 (lim xs (xs.length - 1) : Nat)) := fun o => by
        rw [World.cell?_alloc_lt _ _ _ (World.block_lt_of_cell? _ _ hcell)]
        exact hcell
      by_cases hv : lim xs (xs.length - 1) = 0
      · have HM : Hid (mayL neg xs = false) := Lib.hid (by unfold mayL; rw [if_neg h0, hv]; simp)
        have hb : (((lim xs (xs.length - 1) : Nat) : Int) != 0) = false := by rw [hv]; rfl
        go_enter Tryz.func176, Tryz.ntmps176
        go_wp2
        go_ret
        exact ⟨by rw [HM.out]; rfl, (Plus.refl _).alloc _⟩
      · have HM : Hid (mayL neg xs = true) := Lib.hid (by unfold mayL; rw [if_neg h0]; simp [h8, hv])
        have hb : (((lim xs (xs.length - 1) : Nat) : Int) != 0) = true := by simpa using hv
        go_enter Tryz.func176, Tryz.ntmps176
        go_wp2
        go_ret
        exact ⟨by rw [HM.out]; rfl, (Plus.refl _).alloc _⟩
    · have HM : Hid (mayL neg xs = false) := Lib.hid (by unfold mayL; rw [if_neg h0]; simp [h8])
      have h8b : decide ((xs.length : Int) ≤ 8) = false := by simp; omega
      go_enter Tryz.func176, Tryz.ntmps176
      go_wp2
      go_ret
      exact ⟨by rw [HM.out]; rfl, (Plus.refl _).alloc _⟩

set_option maxHeartbeats 1000000 in
theorem valid_c (neg : Bool) (A : Option Addr) (xs : List Nat) (n c : Nat) (w : World) (h : Lim w A xs) (hn : n = xs.length) (hl : xs.length ≤ 1152921504606846976) (hlc : xs.length ≤ c) (hc : c ≤ 9223372036854775807) :
    Calls Tryz.prog 118 #[.agg #[.bool neg, .slice A n c]] w (RetBig (bigI neg xs) w) := by
  subst hn
  by_cases hm : mayL neg xs = true
  · obtain ⟨e1, e2, _⟩ := may_yes h.1 hm
    have E1 := Lib.hid e1; clear e1
    have E2 := Lib.hid e2; clear e2
    have HM := Lib.hid hm; clear hm
    go_enter Tryz.func118, Tryz.ntmps118
    go_wp2_with (go_at_call 176; refine (may_c _ _ _ _ _ _ ((h.alloc _).alloc _) rfl hl).mono ?_; rintro e w1 ⟨rfl, ⟨x, rfl⟩⟩; rw [HM.out])
    go_returns
    refine ⟨A, c, ?_, by rw [← E1.out]; exact hlc, hc, by rw [← E1.out]; exact ((h.alloc _).alloc _).grow _, ?_⟩
    · rw [← E1.out, ← E2.out]
    · repeat' (first | exact Plus.refl _ | refine Plus.alloc ?_ _ | refine Plus.plus ?_ _ | refine Plus.drew ?_ | refine Plus.drewN ?_ _)
  · have hm' : mayL neg xs = false := by simpa using hm
    have h0 := may_no hm'
    have HM := Lib.hid hm'; clear hm hm'
    rw [h0]
    go_enter Tryz.func118, Tryz.ntmps118
    go_wp2_with (go_at_call 176; refine (may_c _ _ _ _ _ _ ((h.alloc _).alloc _) rfl hl).mono ?_; rintro e w1 ⟨rfl, ⟨x, rfl⟩⟩; rw [HM.out])
    go_returns
    refine ⟨none, 0, by rw [show (0 : Int).natAbs = 0 from rfl, dig_zero]; rfl, by rw [show (0 : Int).natAbs = 0 from rfl, dig_zero]; exact Nat.le_refl _, by omega, by rw [show (0 : Int).natAbs = 0 from rfl, dig_zero]; exact Lim.nil, ?_⟩
    repeat' (first | exact Plus.refl _ | refine Plus.alloc ?_ _ | refine Plus.plus ?_ _ | refine Plus.drew ?_ | refine Plus.drewN ?_ _)

end Go.Proofs.YtakahpbondaidaaGreatDoor.Bg
