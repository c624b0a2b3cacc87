/- UTF-8, code units, numbers of texts: the plain facts. -/
import Derived.Lib.DecodeN
import Derived.WalkKit
import Derived.Deep.Draws
import Derived.Deep.Quiet
import Derived.WalkSmall
import Derived.Deep.OwnRows
import Derived.DataReads
import Derived.Lib.Hide
namespace Go.Proofs.YtakahpbondaidaaGreatDoor
open Go.Lib

/-- What stands at the head of bytes: the character, and how many bytes it has. -/
def hd (l : List Nat) : Nat × Nat := decodeN l.length (l.getD 0 0) (l.getD 1 0) (l.getD 2 0) (l.getD 3 0)
/-- May a character be? -/
def okV (v : Nat) : Prop := v < 55296 ∨ (57344 ≤ v ∧ v ≤ 1114111)
instance (v : Nat) : Decidable (okV v) := inferInstanceAs (Decidable (_ ∨ _))
/-- The bytes of a character. -/
def bts (v : Nat) : List Nat :=
  if v < 128 then [v] else if v < 2048 then [192 + v / 64, 128 + v % 64]
  else if v < 65536 then [224 + v / 4096, 128 + v / 64 % 64, 128 + v % 64]
  else [240 + v / 262144, 128 + v / 4096 % 64, 128 + v / 64 % 64, 128 + v % 64]
def isB (l : List Nat) : Prop := ∀ x ∈ l, x < 256
def hiU (u : Nat) : Bool := decide (55296 ≤ u) && decide (u < 56320)
def loU (u : Nat) : Bool := decide (56320 ≤ u) && decide (u < 57344)
def joinV (h l : Nat) : Nat := 65536 + (h - 55296) * 1024 + (l - 56320)
def enc : List Nat → Option (List Nat)
  | [] => some []
  | a :: r => if hiU a = false ∧ loU a = false then (enc r).map (bts a ++ ·)
    else match r with
      | c :: r' => if hiU a = true ∧ loU c = true then (enc r').map (bts (joinV a c) ++ ·) else none
      | [] => none
end Go.Proofs.YtakahpbondaidaaGreatDoor
namespace Go.Proofs.YtakahpbondaidaaGreatDoor
open Go.RowKit

/-- What a world has grown by: new blocks; the count of draws. -/
structure More where
  blocks : List Obj
  draws : Nat
instance : Inhabited More := ⟨⟨[], 0⟩⟩
/-- 'w' with the blocks x.blocks behind its own, the count of draws at x.draws. -/
def plus (w : World) (x : More) : World := { w with heap := w.heap ++ x.blocks.toArray, drawn := x.draws }

section
variable (w : World) (x y : More)

@[go_sem] theorem size_plus : (plus w x).heap.size = w.heap.size + x.blocks.length := by simp [plus]

theorem heap_plus_lt {k : Nat} (h : k < w.heap.size) : (plus w x).heap[k]? = w.heap[k]? := by
  simp only [plus]
  rw [Array.getElem?_append_left h]

theorem cell?_plus (n i : Nat) (hn : n < w.heap.size) : (plus w x).cell? ⟨n, i, none⟩ = w.cell? ⟨n, i, none⟩ := World.cell?_of_block (w := w) (heap_plus_lt w x hn)
theorem frozen?_plus (n i : Nat) (hn : n < w.heap.size) : (plus w x).frozen? ⟨n, i, none⟩ = w.frozen? ⟨n, i, none⟩ := World.frozen?_of_block (w := w) (heap_plus_lt w x hn)

theorem setCell_plus (n i : Nat) (v : Value) (hn : n < w.heap.size) : (plus w x).setCell ⟨n, i, none⟩ v = plus (w.setCell ⟨n, i, none⟩ v) x := by
  unfold World.setCell plus
  congr 1
  apply Array.ext_getElem?
  intro k
  by_cases hk : k < w.heap.size
  · rw [Array.getElem?_modify, Array.getElem?_append_left hk, Array.getElem?_append_left (by simpa using hk), Array.getElem?_modify]
  · rw [Array.getElem?_modify]
    have hne : n ≠ k := by omega
    simp only [hne, if_false]
    rw [Array.getElem?_append_right (by omega), Array.getElem?_append_right (by simpa using hk)]
    simp

@[go_sem] theorem plus_drew : plus w.drew x = plus w x := rfl
@[go_sem] theorem plus_drewN (n : Nat) : plus (w.drewN n) x = plus w x := rfl

theorem plus_plus : plus (plus w x) y = plus w ⟨x.blocks ++ y.blocks, y.draws⟩ := by
  simp [plus, Array.append_assoc]

theorem plus_nil : plus w ⟨[], w.drawn⟩ = w := by simp [plus]
end

/-- Block n is there in w. -/
class Old (n : Nat) (w : World) : Prop where lt : n < w.heap.size
/-- n is how many blocks w has. -/
class AtEnd (n : Nat) (w : World) : Prop where eq : n = w.heap.size

instance (w : World) : AtEnd w.heap.size w := ⟨rfl⟩
instance (n : Nat) (w : World) (o : Obj) [h : AtEnd n w] : AtEnd (n + 1) (w.alloc o) := ⟨by rw [World.size_alloc, h.eq]⟩
instance (n : Nat) (w : World) (x : More) [h : AtEnd n w] : AtEnd (n + x.blocks.length) (plus w x) := ⟨by rw [size_plus, h.eq]⟩
instance (n : Nat) (w : World) [h : AtEnd n w] : AtEnd n w.drew := ⟨h.eq⟩
instance (n m : Nat) (w : World) [h : AtEnd n w] : AtEnd n (w.drewN m) := ⟨h.eq⟩
instance (n : Nat) (w : World) (o : Obj) [h : AtEnd n w] : Old n (w.alloc o) := ⟨by rw [World.size_alloc, h.eq]; exact Nat.lt_succ_self _⟩
instance (n : Nat) (w : World) (o : Obj) [h : Old n w] : Old n (w.alloc o) := ⟨by rw [World.size_alloc]; exact Nat.lt_succ_of_lt h.lt⟩
instance (n : Nat) (w : World) (x : More) [h : Old n w] : Old n (plus w x) := ⟨by rw [size_plus]; exact Nat.lt_add_right _ h.lt⟩
instance (n : Nat) (w : World) [h : Old n w] : Old n w.drew := ⟨h.lt⟩
instance (n m : Nat) (w : World) [h : Old n w] : Old n (w.drewN m) := ⟨h.lt⟩
instance (n : Nat) (w : World) (a : Addr) (v : Value) [h : Old n w] : Old n (w.setCell a v) := ⟨by rw [World.size_setCell]; exact h.lt⟩

section
variable (w : World) (x : More) (o : Obj) (n i : Nat) (v : Value) [h : Old n w]
@[go_sem] theorem cell?_plus' : (plus w x).cell? ⟨n, i, none⟩ = w.cell? ⟨n, i, none⟩ := cell?_plus w x n i h.lt
@[go_sem] theorem frozen?_plus' : (plus w x).frozen? ⟨n, i, none⟩ = w.frozen? ⟨n, i, none⟩ := frozen?_plus w x n i h.lt
@[go_sem] theorem setCell_plus' : (plus w x).setCell ⟨n, i, none⟩ v = plus (w.setCell ⟨n, i, none⟩ v) x := setCell_plus w x n i v h.lt
@[go_sem] theorem cell?_alloc' : (w.alloc o).cell? ⟨n, i, none⟩ = w.cell? ⟨n, i, none⟩ := World.cell?_alloc_past o n i h.lt
@[go_sem] theorem frozen?_alloc' : (w.alloc o).frozen? ⟨n, i, none⟩ = w.frozen? ⟨n, i, none⟩ := World.frozen?_alloc_past o n i h.lt
@[go_sem] theorem setCell_alloc' : (w.alloc o).setCell ⟨n, i, none⟩ v = (w.setCell ⟨n, i, none⟩ v).alloc o := World.setCell_alloc_past o n i v h.lt
end
section
variable (w : World) (c : Array Value) (t : TypeId) (n i : Nat) (v : Value) [h : AtEnd n w]
@[go_sem] theorem cell?_alloc_end : (w.alloc (.cells c t)).cell? ⟨n, i, none⟩ = c[i]? := World.cell?_alloc_at c t n i h.eq
@[go_sem] theorem frozen?_alloc_end : (w.alloc (.cells c t)).frozen? ⟨n, i, none⟩ = false := World.frozen?_alloc_at c t n i h.eq
@[go_sem] theorem setCell_alloc_end : (w.alloc (.cells c t)).setCell ⟨n, i, none⟩ v = w.alloc (.cells (c.setIfInBounds i v) t) := World.setCell_alloc_at c t n i v h.eq
end

/-- w' is w, grown. -/
def Plus (w w' : World) : Prop := ∃ x, w' = plus w x
theorem Plus.refl (w : World) : Plus w w := ⟨_, (plus_nil w).symm⟩
theorem Plus.plus {w w' : World} (h : Plus w w') (x : More) : Plus w (plus w' x) := by
  obtain ⟨y, rfl⟩ := h
  exact ⟨_, plus_plus w y x⟩
theorem Plus.trans {a b c : World} (h : Plus a b) (k : Plus b c) : Plus a c := by
  obtain ⟨y, rfl⟩ := k
  exact h.plus y
theorem Plus.below {w w' : World} (h : Plus w w') : Below w.heap.size w w' := by
  obtain ⟨x, rfl⟩ := h
  exact ⟨rfl, rfl, rfl, by rw [size_plus]; omega, fun k hk => heap_plus_lt w x hk⟩
theorem Plus.of_below {w w' : World} (h : Below w.heap.size w w') : Plus w w' := by
  obtain ⟨ho, ht, hu, hs, hb⟩ := h
  have hh : w'.heap = w.heap ++ (w'.heap.toList.drop w.heap.size).toArray := by
    apply Array.ext_getElem?
    intro k
    by_cases hk : k < w.heap.size
    · rw [Array.getElem?_append_left hk, hb k hk]
    · rw [Array.getElem?_append_right (by omega)]
      simp
      congr 1
      omega
  refine ⟨⟨w'.heap.toList.drop w.heap.size, w'.drawn⟩, ?_⟩
  unfold YtakahpbondaidaaGreatDoor.plus
  rw [← hh]
  obtain ⟨heap, tape, drawn, os, output⟩ := w'
  simp only at ho ht hu
  subst ho ht hu
  rfl
theorem Plus.alloc {w w' : World} (h : Plus w w') (o : Obj) : Plus w (w'.alloc o) :=
  h.trans (.of_below ((Below.refl _ _).alloc (Nat.le_refl _) o))
theorem Plus.drew {w w' : World} (h : Plus w w') : Plus w w'.drew :=
  h.trans (.of_below ((Below.refl _ _).drew))
theorem Plus.drewN {w w' : World} (h : Plus w w') (n : Nat) : Plus w (w'.drewN n) :=
  h.trans (.of_below (below_drewN (Below.refl _ _) n))

theorem Plus.is {w : World} (x : More) : Plus w (YtakahpbondaidaaGreatDoor.plus w x) := ⟨x, rfl⟩

/-- A region that draws its order, whose operations only read and whose callees leave a world that has grown: one walk in the order of the text. -/
theorem wp_region_plus {P : Program} {id : Nat} {Q : Exit → Act → World → Prop} {a : Act} {w : World} {l : List Oper} (hm : P.follows .mixedOrders = true) (hB : Region.lexB .any l.toArray = true)
    (h : wpQuiet P l.toArray (fun w' => ∃ x, w' = YtakahpbondaidaaGreatDoor.plus w x) (fun a' => ∀ w', (∃ x, w' = YtakahpbondaidaaGreatDoor.plus w x) → Q .normal a' w') l a) : (Code.region id l.toArray true).wp P Q a w :=
  wp_region_quiet (C := fun w' => ∃ x, w' = YtakahpbondaidaaGreatDoor.plus w x) hm hB ⟨⟨[], w.drawn + 1⟩, by simp [YtakahpbondaidaaGreatDoor.plus]⟩ (by simpa using h)

theorem calls_plus {P : Program} {f : FuncId} {args : Array Value} {w : World} {x : More} {v : Value}
    (h : Calls P f args (YtakahpbondaidaaGreatDoor.plus w x) fun e w' => e = .returned v ∧ Plus (YtakahpbondaidaaGreatDoor.plus w x) w') : Calls P f args (YtakahpbondaidaaGreatDoor.plus w x) fun e w'' => e = .returned v ∧ ∃ y, w'' = YtakahpbondaidaaGreatDoor.plus w y :=
  h.mono fun _ _ ⟨he, hp⟩ => ⟨he, (Plus.is x).trans hp⟩

end Go.Proofs.YtakahpbondaidaaGreatDoor
namespace Go.Proofs.YtakahpbondaidaaGreatDoor
open Go.RowKit

theorem block_of_add (a : Addr) (n : Nat) : (a.add n).block = a.block := by unfold Addr.add; split <;> rfl
theorem add_addr (g o j : Nat) : (⟨g, o, none⟩ : Addr).add j = ⟨g, o + j, none⟩ := by unfold Addr.add; split <;> simp_all
theorem zero_add_addr (g j : Nat) : (⟨g, 0, none⟩ : Addr).add j = ⟨g, j, none⟩ := by unfold Addr.add; split <;> simp_all
/-- The cells from g, o on read as the numbers xs. -/
def At (k : IntKind) (w : World) (g o : Nat) (xs : List Nat) : Prop := ∀ j, j < xs.length → w.cell? ⟨g, o + j, none⟩ = some (.int k ((xs.getD j 0 : Nat) : Int))
/-- The slice at A reads as the numbers xs. -/
def Rd (k : IntKind) (w : World) (A : Option Addr) (xs : List Nat) : Prop := 0 < xs.length → ∃ g o, A = some ⟨g, o, none⟩ ∧ g < w.heap.size ∧ At k w g o xs
section
variable {w w' : World} {A : Option Addr} {xs : List Nat} {g o : Nat} {k : IntKind}
theorem At.keep (h : At k w g o xs) (hk : w'.heap[g]? = w.heap[g]?) : At k w' g o xs := fun j hj => (World.cell?_of_block (w := w) hk).trans (h j hj)
theorem At.below {B : Nat} (h : At k w g o xs) (hb : Below B w w') (hg : g < B) : At k w' g o xs := h.keep (hb.block g hg)
theorem At.plus (h : At k w g o xs) (hg : g < w.heap.size) (hp : Plus w w') : At k w' g o xs := h.below hp.below hg
theorem At.drew (h : At k w g o xs) : At k w.drew g o xs := h
theorem getD_drop (xs : List Nat) (n j : Nat) : (xs.drop n).getD j 0 = xs.getD (n + j) 0 := by
  rw [List.getD_eq_getElem?_getD, List.getD_eq_getElem?_getD, List.getElem?_drop]
theorem At.drop (h : At k w g o xs) (n : Nat) : At k w g (o + n) (xs.drop n) := fun j hj => by
  rw [List.length_drop] at hj
  rw [getD_drop, Nat.add_assoc]
  exact h (n + j) (by omega)
theorem getD_take {xs : List Nat} {n j : Nat} (h : j < n) : (xs.take n).getD j 0 = xs.getD j 0 := by
  rw [List.getD_eq_getElem?_getD, List.getD_eq_getElem?_getD, List.getElem?_take, if_pos h]
theorem At.take (h : At k w g o xs) (n : Nat) : At k w g o (xs.take n) := fun j hj => by
  rw [List.length_take] at hj
  rw [getD_take (by omega)]
  exact h j (by omega)
theorem getD_mem {xs : List Nat} {j : Nat} (h : j < xs.length) : xs.getD j 0 ∈ xs := by
  rw [List.getD_eq_getElem?_getD, List.getElem?_eq_getElem h]
  exact List.getElem_mem h
theorem Rd.nil : Rd k w A [] := fun h => absurd h (by simp)
theorem Rd.keep (h : Rd k w A xs) (hs : w.heap.size ≤ w'.heap.size) (hk : ∀ b, A.map (·.block) = some b → b < w.heap.size → w'.heap[b]? = w.heap[b]?) : Rd k w' A xs := fun h0 => by
  obtain ⟨g, o, rfl, hg, hc⟩ := h h0
  exact ⟨g, o, rfl, by omega, hc.keep (hk g rfl hg)⟩
theorem Rd.below (h : Rd k w A xs) (hb : Below w.heap.size w w') : Rd k w' A xs := h.keep hb.size fun b _ hk => hb.block b hk
theorem Rd.plus (h : Rd k w A xs) (hp : Plus w w') : Rd k w' A xs := h.below hp.below
theorem Rd.drew (h : Rd k w A xs) : Rd k w.drew A xs := h
theorem Rd.alloc (h : Rd k w A xs) (o : Obj) : Rd k (w.alloc o) A xs := h.keep (by simp) fun b _ hk => Below.heap_alloc _ _ _ hk
theorem Rd.grown (h : Rd k w A xs) {row : Option Nat} (hg : w.grownBy w' row) (hr : ∀ ad, A = some ad → some ad.block ≠ row) : Rd k w' A xs :=
  h.keep hg.size fun b hk hlt => hg.block b hlt (by
    cases A with
    | none => simp at hk
    | some ad => simp at hk; subst hk; exact hr ad rfl)
theorem Rd.at_ (h : Rd k w A xs) {j : Nat} (hj : j < xs.length) : ∃ g o, A = some ⟨g, o, none⟩ ∧ g < w.heap.size ∧ At k w g o xs := h (by omega)
theorem Rd.take (h : Rd k w A xs) (n : Nat) : Rd k w A (xs.take n) := fun h0 => by
  rw [List.length_take] at h0
  obtain ⟨g, o, e, hg, hc⟩ := h (by omega)
  exact ⟨g, o, e, hg, hc.take n⟩
end
/-- An argument: its numbers lie in memory, each below K. -/
structure Ar (k : IntKind) (K : Nat) (w : World) (A : Option Addr) (xs : List Nat) (n c : Nat) : Prop where
  rd : Rd k w A xs
  len : n = xs.length
  cap : n ≤ c
  max : c ≤ 9223372036854775807
  bd : ∀ x ∈ xs, x < K
section
variable {w w' : World} {A : Option Addr} {xs : List Nat} {n c K : Nat} {k : IntKind}
theorem Ar.plus (h : Ar k K w A xs n c) (hp : Plus w w') : Ar k K w' A xs n c := ⟨h.rd.plus hp, h.len, h.cap, h.max, h.bd⟩
theorem Ar.drew (h : Ar k K w A xs n c) : Ar k K w.drew A xs n c := ⟨h.rd.drew, h.len, h.cap, h.max, h.bd⟩
end

/-- Block g holds the numbers xs, and perhaps more. -/
def Own (k : IntKind) (w : World) (g : Nat) (xs : List Nat) : Prop :=
  ∃ cur e, w.heap[g]? = some (.cells cur e (0, 0)) ∧ ∀ j, j < xs.length → cur[j]? = some (.int k ((xs.getD j 0 : Nat) : Int))
section
variable {w w' : World} {xs : List Nat} {g : Nat} {k : IntKind}
theorem Own.lt (h : Own k w g xs) : g < w.heap.size := by
  obtain ⟨cur, e, hh, _⟩ := h
  exact (Array.getElem?_eq_some_iff.1 hh).1
theorem Own.cell (h : Own k w g xs) {j : Nat} (hj : j < xs.length) : w.cell? ⟨g, j, none⟩ = some (.int k ((xs.getD j 0 : Nat) : Int)) := by
  obtain ⟨cur, e, hh, hc⟩ := h
  rw [cell_of_row w g j cur e (0, 0) hh]
  exact hc j hj
theorem Own.frozen (h : Own k w g xs) (j : Nat) : w.frozen? ⟨g, j, none⟩ = false := by
  obtain ⟨cur, e, hh, hc⟩ := h
  simp [World.frozen?, hh]
theorem Own.rd (h : Own k w g xs) : Rd k w (some ⟨g, 0, none⟩) xs := fun _ => ⟨g, 0, rfl, h.lt, fun j hj => by rw [Nat.zero_add]; exact h.cell hj⟩
theorem Own.block (h : Own k w g xs) (hk : w'.heap[g]? = w.heap[g]?) : Own k w' g xs := by
  obtain ⟨cur, e, hh, hc⟩ := h
  exact ⟨cur, e, hk.trans hh, hc⟩
theorem Own.below {B : Nat} (h : Own k w g xs) (hb : Below B w w') (hg : g < B) : Own k w' g xs := h.block (hb.block g hg)
theorem Own.alloc (h : Own k w g xs) (o : Obj) : Own k (w.alloc o) g xs := h.block (Below.heap_alloc _ _ _ h.lt)
theorem Own.set (h : Own k w g xs) {j v : Nat} (hj : j < xs.length) : Own k (w.setCell ⟨g, j, none⟩ (.int k v)) g (xs.set j v) := by
  obtain ⟨cur, e, hh, hc⟩ := h
  refine ⟨cur.setIfInBounds j (.int k v), e, ?_, fun i hi => ?_⟩
  · simp [World.setCell, Array.getElem?_modify, hh]
  · rw [List.length_set] at hi
    rw [Array.getElem?_setIfInBounds]
    by_cases hij : j = i
    · subst hij
      have hlt : j < cur.size := (Array.getElem?_eq_some_iff.1 (hc j hj)).1
      rw [if_pos rfl, if_pos hlt]
      rw [List.getD_eq_getElem?_getD, List.getElem?_set_self hj]
      rfl
    · rw [if_neg hij, hc i hi]
      rw [List.getD_eq_getElem?_getD, List.getD_eq_getElem?_getD, List.getElem?_set_ne hij]
/-- New zeros. -/
theorem Own.zeros (k : IntKind) (w : World) (n : Nat) (t : TypeId) (cs : Array Value) (hc : cs = Array.replicate n (.int k 0)) : Own k (w.alloc (.cells cs t)) w.heap.size (List.replicate n 0) := by
  subst hc
  refine ⟨_, t, heap_alloc_new w _, fun j hj => ?_⟩
  simp at hj
  rw [Array.getElem?_replicate, if_pos hj, List.getD_eq_getElem?_getD, List.getElem?_replicate, if_pos hj]
  rfl
end
/-- Numbers as cells. -/
def vals (k : IntKind) (xs : List Nat) : List Value := xs.map fun (x : Nat) => .int k (x : Int)
theorem vals_app (k : IntKind) (xs ys : List Nat) : vals k (xs ++ ys) = vals k xs ++ vals k ys := List.map_append
theorem vals_len (k : IntKind) (xs : List Nat) : (vals k xs).length = xs.length := List.length_map _
/-- A row that the call made, read as a slice. -/
theorem rd_of_own {k : IntKind} {w : World} {b e : Nat} {v : Value} {xs : List Nat} (h : w.ownsRow b e 1 v xs.length (vals k xs)) : ∃ A c, v = .slice A xs.length c ∧ xs.length ≤ c ∧ c ≤ 9223372036854775807 ∧ Rd k w A xs := by
  rcases h.2 with ⟨rfl, h0⟩ | ⟨g, cap, cur, rfl, hb, hg, hl, hm, hs, ht⟩
  · have : xs = [] := List.eq_nil_of_length_eq_zero h0
    subst this
    exact ⟨none, 0, rfl, Nat.le_refl _, by omega, Rd.nil⟩
  · refine ⟨some ⟨g, 0, none⟩, cap, rfl, hl, by unfold maxLen at hm; exact hm, fun h0 => ⟨g, 0, rfl, (Array.getElem?_eq_some_iff.1 hg).1, fun j hj => ?_⟩⟩
    rw [Nat.zero_add, cell_of_row w g j cur e (0, 0) hg]
    have e1 : cur[j]? = cur.toList[j]? := by simp
    have e2 : (cur.toList.take (xs.length * 1))[j]? = cur.toList[j]? := by rw [List.getElem?_take, if_pos (by omega)]
    rw [e1, ← e2, ht]
    unfold vals
    rw [List.getElem?_map, List.getElem?_eq_getElem hj, List.getD_eq_getElem?_getD, List.getElem?_eq_getElem hj]
    rfl
end Go.Proofs.YtakahpbondaidaaGreatDoor
