/- Appends. -/
import Derived.WalkKit
import Derived.WalkSpells
import Derived.WalkLawsBesides
import Derived.Handy
import Derived.Deep.RegionHeld3
import Derived.Deep.DeepCutAuto
import Derived.Deep.QuietTactic
import Derived.BigQuiet
import Derived.Lib.Hide
import Derived.KernelRfl
import Derived.WalkMore
import Derived.Deep.LoopGhost
import Derived.RangeFuncBox
import Derived.Test.YtjojkogmbgppcaaC8
namespace Go.Proofs.Ytjojkogmbgppcaa
open Go.RowKit

theorem own_plus {w w' : World} {B e z n : Nat} {v : Value} {l : List Value} (h : w.ownsRow B e z v n l) (hp : Plus w w') : w'.ownsRow B e z v n l := by
  refine ⟨h.1, ?_⟩
  rcases h.2 with hh | ⟨g, cap, cur, hv, hb, hg, r⟩
  · exact .inl hh
  · refine .inr ⟨g, cap, cur, hv, hb, ?_, r⟩
    rw [hp.below.block g (Array.getElem?_eq_some_iff.1 hg).1]
    exact hg
theorem own_alloc {w : World} {B e z n : Nat} {v : Value} {l : List Value} (h : w.ownsRow B e z v n l) (o : Obj) : (w.alloc o).ownsRow B e z v n l := own_plus h (Plus.of_below ((Below.refl _ _).alloc (Nat.le_refl _) o))
theorem news_at (w : World) (us : List Value) (t : TypeId) : ∀ j v, us[j]? = some v → (w.alloc (.cells us.toArray t)).cell? ((⟨w.heap.size, 0, none⟩ : Addr).add j) = some v := fun j v h => by
  rw [zero_add_addr, World.cell?_alloc_at _ _ _ _ rfl]
  simpa using h
theorem news_at' (w : World) (us : List Value) (t : TypeId) (g : Nat) (hg : g = w.heap.size) : ∀ j v, us[j]? = some v → (w.alloc (.cells us.toArray t)).cell? ((⟨g, 0, none⟩ : Addr).add j) = some v := by
  subst hg
  exact news_at w us t
theorem below_own {w wr w1 : World} {B e z n : Nat} {v : Value} {l : List Value} {o : Obj} (h : wr.ownsRow B e z v n l) (hg : (wr.alloc o).grownBy w1 v.ownBlock) (hB : Below B w wr) (hs : B ≤ wr.heap.size) : Below B w w1 := by
  refine (hB.alloc hs o).grown hg (by rw [World.size_alloc]; omega) (fun j hj => ?_)
  rcases h.2 with ⟨rfl, _⟩ | ⟨g, cap, cur, rfl, hbg, _⟩
  · cases hj
  · injection hj with hj
    subst hj
    exact hbg
theorem rd_news {k : IntKind} {w : World} {ad : Addr} {xs : List Nat} (h : Rd k w (some ad) xs) : ∀ j v, (vals k xs)[j]? = some v → w.cell? (ad.add j) = some v := fun j v hj => by
  unfold vals at hj
  rw [List.getElem?_map] at hj
  have hlt : j < xs.length := by
    apply Nat.lt_of_not_le
    intro q
    rw [List.getElem?_eq_none q] at hj
    cases hj
  obtain ⟨g, o, e, hg, hat⟩ := h (by omega)
  obtain rfl := Option.some.inj e
  rw [List.getElem?_eq_getElem hlt] at hj
  rw [add_addr, hat j hlt, ← hj, List.getD_eq_getElem?_getD, List.getElem?_eq_getElem hlt]
  rfl
theorem vals_one (k : IntKind) (xs : List Nat) : ∀ u ∈ vals k xs, u.oneCell' = true := fun u h => by
  obtain ⟨x, _, rfl⟩ := List.mem_map.1 h
  rfl
/-- An append of what lies in memory, nil too, to a row of the call's own. -/
theorem run_append_rd {w : World} (base : Nat) (t ty e : TypeId) (i : TypeInfo) (z : Value) (bytes : Nat) (k : IntKind) (ht : Try.prog.underlying t = some (.slice e)) (hi : Try.prog.info? e = some i) (hz : i.zero = some z) (hsize : i.size = 1) (hby : i.bytes = bytes) (hzs : z.cells.size = 1)
    (v : Value) (xs ys : List Nat) (hown : w.ownsRow base e 1 v xs.length (vals k xs)) (A : Option Addr) (m c : Nat) (hm : m = ys.length) (hr : Rd k w A ys) (h63 : xs.length + ys.length ≤ maxLen) (hbytes : (xs.length + ys.length) * bytes ≤ 140737488355328) (hbase : base ≤ w.heap.size) :
    ∃ v' w', (Builtin.append_ #[t, t] ty #[v, .slice A m c]).run Try.prog w = .ok v' w' ∧ w'.ownsRow base e 1 v' (xs.length + ys.length) (vals k xs ++ vals k ys) ∧ w.grownBy w' v.ownBlock := by
  subst hm
  cases A with
  | some ad =>
    obtain ⟨v', w', q1, q2, q3, _⟩ := run_append_own (P := Try.prog) w base t ty e i z 1 bytes ht hi hz hsize hby hzs (by decide) v xs.length (vals k xs) hown ad ys.length c (vals k ys) (by rw [vals_len, Nat.mul_one]) (rd_news hr) (vals_one k ys) h63 hbytes hbase
    exact ⟨v', w', q1, q2, q3⟩
  | none =>
    have h0 : ys = [] := by
      rcases ys with _ | ⟨y, ys⟩
      · rfl
      · obtain ⟨g, o, e, _⟩ := hr (by simp)
        cases e
    subst h0
    refine ⟨v, w, ?_, by simpa [vals] using hown, World.grownBy.refl w _⟩
    rcases hown.2 with ⟨rfl, _⟩ | ⟨g, cap, cur, rfl, _, _, hnc, _⟩
    · simp [Builtin.append_, run_underlying ht, sizeOf, typeInfo, hi, Builtin.lenOf, Builtin.firstCells]
    · simp [Builtin.append_, run_underlying ht, sizeOf, typeInfo, hi, Builtin.lenOf, Builtin.firstCells, hnc, storeCells]
theorem wpList_append_rd {ops : Array Oper} {rest : List Oper} {o : Oper} {a : Act} {w : World} {Q : Exit → Act → World → Prop} (hgd : Region.wanted o (yielded ops a.tmps) = true) (s x : Operand) (t : TypeId)
    (ho : o.op = .call { callee := .builtin .append, args := #[s, x], argTypes := #[t, t] }) (base : Nat) (e : TypeId) (i : TypeInfo) (z : Value) (bytes : Nat) (k : IntKind) (ht : Try.prog.underlying t = some (.slice e)) (hi : Try.prog.info? e = some i) (hz : i.zero = some z) (hsize : i.size = 1) (hby : i.bytes = bytes) (hzs : z.cells.size = 1)
    (v : Value) (xs ys : List Nat) (hs : a.eval s = v) (hown : w.ownsRow base e 1 v xs.length (vals k xs)) (A : Option Addr) (m c : Nat) (hx : a.eval x = .slice A m c) (hm : m = ys.length) (hr : Rd k w A ys) (h63 : xs.length + ys.length ≤ maxLen) (hbytes : (xs.length + ys.length) * bytes ≤ 140737488355328) (hbase : base ≤ w.heap.size)
    (h : ∀ v' w', w'.ownsRow base e 1 v' (xs.length + ys.length) (vals k xs ++ vals k ys) → w.grownBy w' v.ownBlock → wpList Try.prog ops Q rest (a.put o.dst v') w') : wpList Try.prog ops Q (o :: rest) a w :=
  wpList_step fun K hK => by
    rw [if_pos hgd]
    obtain ⟨v', w', hrun, h2, h3⟩ := run_append_rd base t o.type e i z bytes k ht hi hz hsize hby hzs v xs ys hown A m c hm hr h63 hbytes hbase
    unfold Oper.wp execOp
    simp only [ho, resolve, invoke, builtin, Sem.run_bind, Sem.run_pure, Result.andThen_ok, List.map_toArray, List.map_cons, List.map_nil, hs, hx, hrun]
    exact hK _ _ (h v' w' h2 h3)
/-- What such an append has made. -/
theorem appended_rd {W W2 w1 : World} {k : IntKind} {K : Nat} {t : TypeId} {v v1 : Value} {xs ys : List Nat} (h0 : W2.ownsRow W.heap.size t 1 v xs.length (vals k xs)) (hp : Plus W W2) (h : w1.ownsRow W.heap.size t 1 v1 (xs.length + ys.length) (vals k xs ++ vals k ys)) (hg : W2.grownBy w1 v.ownBlock) (hb : ∀ x ∈ xs ++ ys, x < K) :
    ∃ C d z, v1 = .slice C (xs.length + ys.length) d ∧ w1 = plus W z ∧ Ar k K (plus W z) C (xs ++ ys) (xs.length + ys.length) d := by
  rw [← vals_app, ← List.length_append] at h
  obtain ⟨C, d, rfl, q1, q2, q3⟩ := rd_of_own h
  have hbw : Below W.heap.size W w1 := by
    refine hp.below.grown hg hp.below.size (fun j hj => ?_)
    rcases h0.2 with ⟨rfl, _⟩ | ⟨g, cap, cur, rfl, hbg, _⟩
    · cases hj
    · injection hj with hj
      subst hj
      exact hbg
  obtain ⟨z, rfl⟩ := Plus.of_below hbw
  exact ⟨C, d, z, by rw [List.length_append], rfl, q3, by rw [List.length_append], by rw [← List.length_append]; exact q1, q2, hb⟩

end Go.Proofs.Ytjojkogmbgppcaa
