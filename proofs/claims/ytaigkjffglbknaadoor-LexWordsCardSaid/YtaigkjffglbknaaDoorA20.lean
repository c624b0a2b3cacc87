/- Contracts: tokens as a row. -/
import Derived.Test.YtaigkjffglbknaaDoorA18
import Derived.Test.YtaigkjffglbknaaDoorA19
namespace Go.Proofs.YtaigkjffglbknaaDoor
open Go.RowKit


theorem infoTok : (Tryd.prog.info? 36).map (fun i => (i.zero, i.size, i.bytes)) = some (some (.agg #[.int .i64 0, .string ⟨#[]⟩, .slice none 0 0, .int .i64 0, .int .i64 0, .bool false, .slice none 0 0, .int .i64 0, .bool false]), 9, 112) := by kernel_rfl
/-- A token and where its parts lie. -/
structure TR where
  t : Tk
  As : Option Addr
  cs : Nat
  Am : Option Addr
  cm : Nat
def trC (r : TR) : List Value := [.int .i64 r.t.k, .string r.t.t, .slice r.As r.t.s.length r.cs, .int .i64 r.t.nk, .int .i64 r.t.n, .bool (decide (r.t.b < 0)), .slice r.Am (Bg.dig r.t.b.natAbs).length r.cm, .int .i64 r.t.a, .bool r.t.nl]
def rowC (rs : List TR) : List Value := rs.flatMap trC
theorem rowC_len (rs : List TR) : (rowC rs).length = rs.length * 9 := by
  induction rs with
  | nil => rfl
  | cons r l ih => unfold rowC at ih ⊢; rw [List.flatMap_cons, List.length_append, ih, List.length_cons]; show 9 + _ = _; omega
theorem rowC_snoc (rs : List TR) (r : TR) : rowC (rs ++ [r]) = rowC rs ++ trC r := by unfold rowC; rw [List.flatMap_append]; simp
def TRM (w : World) (r : TR) : Prop := TkM w r.t.s r.t.b r.As r.cs r.Am r.cm
theorem ty_grown {w w' : World} {A : Option Addr} {n : Nat} {e : TypeId} {row : Option Nat} (h : Bg.Ty w A n e) (hg : w.grownBy w' row) (hr : ∀ g, row = some g → ∃ cur z, w.heap[g]? = some (.cells cur 36 z)) (he : e ≠ 36) : Bg.Ty w' A n e := fun h0 a ha => by
  obtain ⟨cur, z, hh⟩ := h h0 a ha
  refine ⟨cur, z, (hg.block _ (Array.getElem?_eq_some_iff.1 hh).1 (fun e2 => ?_)).trans hh⟩
  obtain ⟨cur2, z2, hh2⟩ := hr _ e2.symm
  rw [hh] at hh2
  injection hh2 with hh2
  injection hh2 with _ hh2 _
  exact he hh2
theorem TkM.grown {w w' : World} {s : List Nat} {b : Int} {As : Option Addr} {cs : Nat} {Am : Option Addr} {cm : Nat} {row : Option Nat} (h : TkM w s b As cs Am cm) (hg : w.grownBy w' row) (hr : ∀ g, row = some g → ∃ cur z, w.heap[g]? = some (.cells cur 36 z)) : TkM w' s b As cs Am cm := by
  refine ⟨⟨fun h0 => ?_, h.str.len, h.str.cap, h.str.max, h.str.bd⟩, ⟨h.big.1, fun h0 => ?_⟩, h.cap, h.max, ty_grown h.tyS hg hr (by decide), ty_grown h.tyB hg hr (by decide)⟩
  · obtain ⟨g, o, e, hlt, hc⟩ := h.str.rd h0
    obtain ⟨cur, z, hh⟩ := h.tyS h0 _ e
    refine ⟨g, o, e, Nat.lt_of_lt_of_le hlt hg.size, hc.keep (hg.block _ hlt (fun e2 => ?_))⟩
    obtain ⟨cur2, z2, hh2⟩ := hr _ e2.symm
    have hh : w.heap[g]? = _ := hh
    rw [hh] at hh2
    injection hh2 with hh2
    injection hh2 with _ hh2 _
    exact absurd hh2 (by decide)
  · obtain ⟨ad, e, hlt, hc⟩ := h.big.2 h0
    obtain ⟨cur, z, hh⟩ := h.tyB h0 _ e
    have hne : some ad.block ≠ row := fun e2 => by
      obtain ⟨cur2, z2, hh2⟩ := hr _ e2.symm
      rw [hh] at hh2
      injection hh2 with hh2
      injection hh2 with _ hh2 _
      exact absurd hh2 (by decide)
    exact ⟨ad, e, Nat.lt_of_lt_of_le hlt hg.size, fun j hj => (World.cell?_of_block (w := w) (by rw [block_of_add]; exact hg.block _ hlt hne)).trans (hc j hj)⟩
theorem own_ty {w : World} {B n : Nat} {v : Value} {l : List Value} {z : Nat} (h : w.ownsRow B 36 z v n l) : ∀ g, v.ownBlock = some g → ∃ cur z, w.heap[g]? = some (.cells cur 36 z) := fun g e => by
  rcases h.2 with ⟨rfl, _⟩ | ⟨g2, cap, cur, rfl, hb, hg, _⟩
  · cases e
  · injection e with e
    subst e
    exact ⟨cur, (0, 0), hg⟩
theorem own_lt {w : World} {B n e : Nat} {v : Value} {l : List Value} {z : Nat} (h : w.ownsRow B e z v n l) (o : Obj) : ∀ g, v.ownBlock = some g → (w.alloc o).heap[g]? = w.heap[g]? := fun g e => by
  rcases h.2 with ⟨rfl, _⟩ | ⟨g2, cap, cur, rfl, hb, hg, _⟩
  · cases e
  · injection e with e
    subst e
    exact Below.heap_alloc _ _ _ (Array.getElem?_eq_some_iff.1 hg).1
theorem own_ty_alloc {w : World} {B n : Nat} {v : Value} {l : List Value} {z : Nat} (h : w.ownsRow B 36 z v n l) (o : Obj) : ∀ g, v.ownBlock = some g → ∃ cur z, (w.alloc o).heap[g]? = some (.cells cur 36 z) := own_ty (own_alloc h o)
def TkRel (xs : List Nat) (w : World) (s5 s6 s7 : Value) (wr : World) : Prop :=
  ∃ (a f : Nat) (nl : Bool) (rs : List TR), s6 = .int .i64 a ∧ s7 = .bool nl ∧ wr.ownsRow w.heap.size 36 9 s5 rs.length (rowC rs) ∧ (∀ r ∈ rs, TRM wr r) ∧ runM xs 0 false [] xs.length = runM xs a nl (rs.map (·.t)) f ∧ xs.length ≤ a + f ∧ a ≤ xs.length ∧ rs.length ≤ a ∧ Below w.heap.size w wr
/-- What Tokens returns. -/
def RetToks (r : Tr) (w : World) (e : Ending) (w' : World) : Prop :=
  ∃ (v : Value) (rs : List TR), e = .returned (.tuple #[v, .int .i64 r.a, .int .i64 r.e]) ∧ rs.map (·.t) = r.l ∧ w'.ownsRow w.heap.size 36 9 v rs.length (rowC rs) ∧ (∀ r ∈ rs, TRM w' r) ∧ Plus w w'
theorem RetToks.er {a er : Nat} {w w' : World} (hp : Plus w w') : RetToks ⟨[], a, er⟩ w (.returned (.tuple #[.slice none 0 0, .int .i64 a, .int .i64 er])) w' :=
  ⟨_, [], rfl, rfl, World.ownsRow_nil _ _ _ _, fun r h => by simp at h, hp⟩
theorem one9 (a : Int) (t : ByteArray) (A : Option Addr) (n c : Nat) (k m : Int) (b : Bool) (D : Option Addr) (p q : Nat) (z : Int) (y : Bool) : ∀ u ∈ [Value.int .i64 a, .string t, .slice A n c, .int .i64 k, .int .i64 m, .bool b, .slice D p q, .int .i64 z, .bool y], u.oneCell' = true := fun u h => by
  simp at h
  rcases h with rfl | rfl | rfl | rfl | rfl | rfl | rfl | rfl | rfl <;> rfl
end Go.Proofs.YtaigkjffglbknaaDoor
