/- Limbs and numbers in memory. -/
import Derived.WalkKit
import Derived.Deep.Draws
import Derived.Deep.Quiet
import Derived.WalkSmall
import Derived.Test.YtmlfcmmgoiigkaaGreatDoorGM
namespace Go.Proofs.YtmlfcmmgoiigkaaGreatDoor.Bg
open Go.RowKit

/-- The slice at A holds the limbs xs. -/
def Lim (w : World) (A : Option Addr) (xs : List Nat) : Prop :=
  okL xs ∧ (0 < xs.length → ∃ ad, A = some ad ∧ ad.block < w.heap.size ∧ ∀ j, j < xs.length → w.cell? (ad.add j) = some (.int .u32 (lim xs j)))
/-- Block g holds the limbs xs, and perhaps more. -/
def Own (w : World) (g : Nat) (xs : List Nat) : Prop :=
  okL xs ∧ ∃ cur e, w.heap[g]? = some (.cells cur e (0, 0)) ∧ ∀ j, j < xs.length → cur[j]? = some (.int .u32 (lim xs j))

theorem block_of_add (a : Addr) (n : Nat) : (a.add n).block = a.block := by unfold Addr.add; split <;> rfl
theorem zero_add_addr (g j : Nat) : (⟨g, 0, none⟩ : Addr).add j = ⟨g, j, none⟩ := by unfold Addr.add; split <;> simp_all

section
variable {w w' : World} {A : Option Addr} {xs : List Nat} {g : Nat}
theorem Lim.nil : Lim w A [] := ⟨okL_nil, fun h => absurd h (by simp)⟩
theorem Lim.keep (h : Lim w A xs) (hs : w.heap.size ≤ w'.heap.size) (hk : ∀ k, A.map (·.block) = some k → k < w.heap.size → w'.heap[k]? = w.heap[k]?) : Lim w' A xs :=
  ⟨h.1, fun h0 => by
    obtain ⟨ad, rfl, hb, hc⟩ := h.2 h0
    exact ⟨ad, rfl, by omega, fun j hj => (World.cell?_of_block (w := w) (by rw [block_of_add]; exact hk _ rfl hb)).trans (hc j hj)⟩⟩
theorem Lim.below (h : Lim w A xs) (hb : Below w.heap.size w w') : Lim w' A xs := h.keep hb.size fun k _ hk => hb.block k hk
theorem Lim.grown (h : Lim w A xs) {row : Option Nat} (hg : w.grownBy w' row) (hr : ∀ ad, A = some ad → some ad.block ≠ row) : Lim w' A xs :=
  h.keep hg.size fun k hk hlt => hg.block k hlt (by
    cases A with
    | none => simp at hk
    | some ad => simp at hk; subst hk; exact hr ad rfl)
theorem Lim.drew (h : Lim w A xs) : Lim w.drew A xs := h
theorem Lim.drewN (h : Lim w A xs) (n : Nat) : Lim (w.drewN n) A xs := h
theorem Lim.alloc (h : Lim w A xs) (o : Obj) : Lim (w.alloc o) A xs := h.keep (by simp) fun k _ hk => Below.heap_alloc _ _ _ hk
theorem Lim.setCell (h : Lim w A xs) {p : Addr} (u : Value) (hp : ∀ ad, A = some ad → ad.block ≠ p.block) : Lim (w.setCell p u) A xs :=
  h.keep (by simp [World.setCell]) fun k hk _ => Below.heap_setCell _ _ _ _ (by
    cases A with
    | none => simp at hk
    | some ad => simp at hk; subst hk; exact hp ad rfl)
theorem Lim.at_ (h : Lim w A xs) {k : Nat} (hk : k < xs.length) : ∃ ad, A = some ad ∧ w.cell? (ad.add k) = some (.int .u32 (lim xs k)) := by
  obtain ⟨ad, e, _, hc⟩ := h.2 (by omega)
  exact ⟨ad, e, hc k hk⟩
theorem Lim.take (h : Lim w A xs) (k : Nat) : Lim w A (xs.take k) :=
  ⟨h.1.take k, fun h0 => by
    rw [List.length_take] at h0
    obtain ⟨ad, e, hb, hc⟩ := h.2 (by omega)
    refine ⟨ad, e, hb, fun j hj => ?_⟩
    rw [List.length_take] at hj
    have : lim (xs.take k) j = lim xs j := by
      unfold lim; rw [List.getD_eq_getElem?_getD, List.getD_eq_getElem?_getD, List.getElem?_take, if_pos (by omega)]
    rw [this]
    exact hc j (by omega)⟩

theorem Own.lt (h : Own w g xs) : g < w.heap.size := by
  obtain ⟨_, cur, e, hh, _⟩ := h
  exact (Array.getElem?_eq_some_iff.1 hh).1
theorem Own.cell (h : Own w g xs) {j : Nat} (hj : j < xs.length) : w.cell? ⟨g, j, none⟩ = some (.int .u32 (lim xs j)) := by
  obtain ⟨_, cur, e, hh, hc⟩ := h
  rw [cell_of_row w g j cur e (0, 0) hh]
  exact hc j hj
theorem Own.frozen (h : Own w g xs) (j : Nat) : w.frozen? ⟨g, j, none⟩ = false := by
  obtain ⟨_, cur, e, hh, hc⟩ := h
  simp [World.frozen?, hh]
theorem Own.toLim (h : Own w g xs) : Lim w (some ⟨g, 0, none⟩) xs :=
  ⟨h.1, fun _ => ⟨_, rfl, h.lt, fun j hj => by rw [zero_add_addr]; exact h.cell hj⟩⟩
theorem Own.block (h : Own w g xs) (hk : w'.heap[g]? = w.heap[g]?) : Own w' g xs := by
  obtain ⟨h1, cur, e, hh, hc⟩ := h
  exact ⟨h1, cur, e, hk.trans hh, hc⟩
theorem Own.below {B : Nat} (h : Own w g xs) (hb : Below B w w') (hg : g < B) : Own w' g xs := h.block (hb.block g hg)
theorem Own.grown (h : Own w g xs) {row : Option Nat} (hg : w.grownBy w' row) (hr : some g ≠ row) : Own w' g xs := h.block (hg.block g h.lt hr)
theorem Own.drew (h : Own w g xs) : Own w.drew g xs := h
theorem Own.drewN (h : Own w g xs) (n : Nat) : Own (w.drewN n) g xs := h
theorem Own.alloc (h : Own w g xs) (o : Obj) : Own (w.alloc o) g xs := h.block (Below.heap_alloc _ _ _ h.lt)
theorem Own.far (h : Own w g xs) {p : Addr} (hp : g ≠ p.block) (u : Value) : Own (w.setCell p u) g xs := h.block (Below.heap_setCell _ _ _ _ hp)
theorem Own.set (h : Own w g xs) {k v : Nat} (hk : k < xs.length) (hv : v < B) : Own (w.setCell ⟨g, k, none⟩ (.int .u32 v)) g (xs.set k v) := by
  obtain ⟨h1, cur, e, hh, hc⟩ := h
  refine ⟨h1.set k hv, cur.setIfInBounds k (.int .u32 v), e, ?_, fun j hj => ?_⟩
  · simp [World.setCell, Array.getElem?_modify, hh]
  · rw [List.length_set] at hj
    rw [Array.getElem?_setIfInBounds]
    by_cases hjk : k = j
    · subst hjk
      have hlt : k < cur.size := (Array.getElem?_eq_some_iff.1 (hc k hj)).1
      rw [if_pos rfl, if_pos hlt]
      unfold lim
      rw [List.getD_eq_getElem?_getD, List.getElem?_set_self hk]
      rfl
    · rw [if_neg hjk, hc j hj]
      unfold lim
      rw [List.getD_eq_getElem?_getD, List.getD_eq_getElem?_getD, List.getElem?_set_ne hjk]
theorem grown_set (w : World) (g k : Nat) (u : Value) : w.grownBy (w.setCell ⟨g, k, none⟩ u) (some g) :=
  ⟨rfl, rfl, rfl, by simp [World.setCell], fun j _ hj => Below.heap_setCell _ _ _ _ (fun e => hj (by simp [e]))⟩
theorem grown_refl (w : World) (row : Option Nat) : w.grownBy w row := ⟨rfl, rfl, rfl, Nat.le_refl _, fun _ _ _ => rfl⟩
theorem grown_trans {a b c : World} {row : Option Nat} (h : a.grownBy b row) (k : b.grownBy c row) : a.grownBy c row :=
  ⟨k.os.trans h.os, k.tape.trans h.tape, k.output.trans h.output, Nat.le_trans h.size k.size, fun i hi hr => (k.block i (Nat.lt_of_lt_of_le hi h.size) hr).trans (h.block i hi hr)⟩
theorem grown_drew {a b : World} {row : Option Nat} (h : a.grownBy b row) : a.grownBy b.drew row := ⟨h.os, h.tape, h.output, h.size, h.block⟩
theorem grown_drewN {a b : World} {row : Option Nat} (h : a.grownBy b row) (n : Nat) : a.grownBy (b.drewN n) row := ⟨h.os, h.tape, h.output, h.size, h.block⟩
theorem grown_alloc {a b : World} {row : Option Nat} (h : a.grownBy b row) (o : Obj) : a.grownBy (b.alloc o) row :=
  grown_trans h ⟨rfl, rfl, rfl, by simp, fun k hk _ => Below.heap_alloc _ _ _ hk⟩
/-- New zero limbs. -/
theorem Own.zeros (w : World) (n : Nat) (t : TypeId) (cs : Array Value) (hc : cs = Array.replicate n (.int .u32 0)) : Own (w.alloc (.cells cs t)) w.heap.size (List.replicate n 0) := by
  subst hc
  refine ⟨okL.replicate n, _, t, heap_alloc_new w _, fun j hj => ?_⟩
  simp at hj
  rw [Array.getElem?_replicate, if_pos hj, lim_in (by simpa using hj)]
  simp
end


/-- May a sign and limbs be? -/
def mayL (neg : Bool) (xs : List Nat) : Bool := if xs.length = 0 then !neg else decide (xs.length ≤ 8) && decide (lim xs (xs.length - 1) ≠ 0)
/-- The number of a sign and a size. -/
def sgn (neg : Bool) (m : Nat) : Int := if neg then -(m : Int) else m
/-- The number of any sign and limbs. -/
def bigI (neg : Bool) (xs : List Nat) : Int := if mayL neg xs then sgn neg (val xs) else 0
theorem sgn_abs (neg : Bool) (m : Nat) : (sgn neg m).natAbs = m := by cases neg <;> simp [sgn]
theorem topOk_of {xs : List Nat} (h : xs.length = 0 ∨ lim xs (xs.length - 1) ≠ 0) : topOk xs := by
  intro x hx
  rcases h with h | h
  · have : xs = [] := List.eq_nil_of_length_eq_zero h
    subst this; simp at hx
  · rw [List.getLast?_eq_getElem?] at hx
    unfold lim at h
    rw [List.getD_eq_getElem?_getD, hx] at h
    simpa using h
/-- What is valid is just the limbs of its number, and its sign. -/
theorem may_yes {neg : Bool} {xs : List Nat} (ho : okL xs) (h : mayL neg xs = true) : xs = dig (bigI neg xs).natAbs ∧ neg = decide (bigI neg xs < 0) ∧ (bigI neg xs).natAbs < B ^ 8 := by
  have e : bigI neg xs = sgn neg (val xs) := by unfold bigI; rw [if_pos h]
  rw [e, sgn_abs]
  unfold mayL at h
  by_cases h0 : xs.length = 0
  · have : xs = [] := List.eq_nil_of_length_eq_zero h0
    subst this
    simp at h
    subst h
    exact ⟨dig_zero.symm, rfl, by decide⟩
  · rw [if_neg h0] at h
    simp at h
    obtain ⟨h1, h2⟩ := h
    have ht := topOk_of (xs := xs) (.inr h2)
    refine ⟨(dig_val ho ht).symm, ?_, Nat.lt_of_lt_of_le (val_lt ho) (Nat.pow_le_pow_right B_pos h1)⟩
    have hv : val xs ≠ 0 := fun hz => h0 (by rw [val_zero_top ht hz]; rfl)
    cases neg with
    | false => simp [sgn]
    | true => simp [sgn]; omega
theorem may_no {neg : Bool} {xs : List Nat} (h : mayL neg xs = false) : bigI neg xs = 0 := by unfold bigI; rw [h]; rfl
theorem bigI_abs {neg : Bool} {xs : List Nat} (ho : okL xs) : (bigI neg xs).natAbs < B ^ 8 := by
  by_cases h : mayL neg xs = true
  · exact (may_yes ho h).2.2
  · rw [may_no (by simpa using h)]; decide
/-- The limbs and the sign of a number that is short enough may be. -/
theorem may_dig {n : Int} (h : n.natAbs < B ^ 8) : mayL (decide (n < 0)) (dig n.natAbs) = true := by
  unfold mayL
  by_cases h0 : n = 0
  · subst h0; rw [show (0 : Int).natAbs = 0 from rfl, dig_zero]; rfl
  · have hne : dig n.natAbs ≠ [] := fun e => by
      have := val_dig n.natAbs
      rw [e] at this
      simp [val] at this
      omega
    have hl : (dig n.natAbs).length ≠ 0 := fun e => hne (List.eq_nil_of_length_eq_zero e)
    rw [if_neg hl]
    have h1 := dig_len_le h
    have h2 : lim (dig n.natAbs) ((dig n.natAbs).length - 1) ≠ 0 := by
      have ht := dig_topOk n.natAbs
      unfold lim
      rw [List.getD_eq_getElem?_getD, ← List.getLast?_eq_getElem?]
      cases hg : (dig n.natAbs).getLast? with
      | none => rw [List.getLast?_eq_none_iff] at hg; exact absurd hg hne
      | some x => exact ht x hg
    simp [h1, h2]
theorem bigI_dig {n : Int} (h : n.natAbs < B ^ 8) : bigI (decide (n < 0)) (dig n.natAbs) = n := by
  unfold bigI
  rw [if_pos (may_dig h), val_dig]
  unfold sgn
  by_cases hn : n < 0
  · simp [hn]; omega
  · simp [hn]; omega
end Go.Proofs.YtmlfcmmgoiigkaaGreatDoor.Bg
