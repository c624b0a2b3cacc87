/- Rows that are appended to; strings of plain units. -/
import Derived.Laws.AppendOwn
import Derived.Test.YtaigkjffglbknaaDoorL7w
namespace Go.Proofs.YtaigkjffglbknaaDoor
open Go.RowKit

/-- An append to a row of the call's own, where its guard says yes. -/
theorem wpList_append_yes {P : Program} {ops : Array Oper} {rest : List Oper} {o : Oper} {a : Act} {w : World} {Q : Exit → Act → World → Prop} (hgd : Region.wanted o (yielded ops a.tmps) = true) (s x : Operand) (t : TypeId)
    (ho : o.op = .call { callee := .builtin .append, args := #[s, x], argTypes := #[t, t] })
    (base : Nat) (e : TypeId) (i : TypeInfo) (z : Value) (size bytes : Nat) (ht : P.underlying t = some (.slice e)) (hi : P.info? e = some i) (hz : i.zero = some z)
    (hsize : i.size = size) (hby : i.bytes = bytes) (hzs : z.cells.size = size) (hsz : 0 < size)
    (v : Value) (n : Nat) (xs : List Value) (hs : a.eval s = v) (hown : w.ownsRow base e size v n xs)
    (ad : Addr) (m c : Nat) (news : List Value) (hx : a.eval x = .slice (some ad) m c) (hl : news.length = m * size) (hnews : ∀ j u, news[j]? = some u → w.cell? (ad.add j) = some u) (h1 : ∀ u ∈ news, u.oneCell' = true)
    (h63 : n + m ≤ maxLen) (hbytes : (n + m) * bytes ≤ 140737488355328) (hbase : base ≤ w.heap.size)
    (h : ∀ v' w', w'.ownsRow base e size v' (n + m) (xs ++ news) → w.grownBy w' v.ownBlock → (v' = .slice none 0 0 ↔ v = .slice none 0 0 ∧ m = 0) → wpList P ops Q rest (a.put o.dst v') w') : wpList P ops Q (o :: rest) a w :=
  wpList_step fun _ hK => by
    rw [if_pos hgd]
    exact wp_append_own w s x t ho base e i z size bytes ht hi hz hsize hby hzs hsz v n xs hs hown ad m c news hx hl hnews h1 h63 hbytes hbase fun v' w' h2 h3 h4 => hK _ _ (h v' w' h2 h3 h4)
/-- What an append to a row of the call's own has made. -/
theorem appended {W W2 w1 : World} {k : IntKind} {K : Nat} {t : TypeId} {v v1 : Value} {xs ys : List Nat} {o : Obj} {m : Nat} (h0 : W2.ownsRow W.heap.size t 1 v xs.length (vals k xs)) (hp : Plus W W2) (hm : m = ys.length) (h : w1.ownsRow W.heap.size t 1 v1 (xs.length + m) (vals k xs ++ vals k ys)) (hg : (W2.alloc o).grownBy w1 v.ownBlock) (hb : ∀ x ∈ xs ++ ys, x < K) :
    ∃ C d z, v1 = .slice C (xs.length + ys.length) d ∧ w1 = plus W z ∧ Ar k K (plus W z) C (xs ++ ys) (xs.length + ys.length) d := by
  subst hm
  rw [← vals_app, ← List.length_append] at h
  obtain ⟨C, d, rfl, q1, q2, q3⟩ := rd_of_own h
  obtain ⟨z, rfl⟩ := Plus.of_below (below_own h0 hg hp.below hp.below.size)
  refine ⟨C, d, z, by rw [List.length_append], rfl, q3, by rw [List.length_append], by rw [← List.length_append]; exact q1, q2, hb⟩
theorem rd_news {k : IntKind} {w : World} {ad : Addr} {xs : List Nat} (h : Rd k w (some ad) xs) : ∀ j v, (vals k xs)[j]? = some v → w.cell? (ad.add j) = some v := fun j v hj => by
  unfold vals at hj
  rw [List.getElem?_map] at hj
  have hlt : j < xs.length := by
    apply Nat.lt_of_not_le
    intro q
    rw [List.getElem?_eq_none q] at hj
    cases hj
  obtain ⟨g, o, e, hg, hat⟩ := h (by omega)
  obtain rfl := Option.some.inj e
  rw [List.getElem?_eq_getElem hlt] at hj
  rw [add_addr, hat j hlt, ← hj, List.getD_eq_getElem?_getD, List.getElem?_eq_getElem hlt]
  rfl
theorem vals_one (k : IntKind) (xs : List Nat) : ∀ u ∈ vals k xs, u.oneCell' = true := fun u h => by
  obtain ⟨x, _, rfl⟩ := List.mem_map.1 h
  rfl


/-- An append of what lies in memory, nil too, to a row of the call's own. -/
theorem run_append_rd {w : World} (base : Nat) (t ty e : TypeId) (i : TypeInfo) (z : Value) (bytes : Nat) (k : IntKind) (ht : Tryd.prog.underlying t = some (.slice e)) (hi : Tryd.prog.info? e = some i) (hz : i.zero = some z) (hsize : i.size = 1) (hby : i.bytes = bytes) (hzs : z.cells.size = 1)
    (v : Value) (xs ys : List Nat) (hown : w.ownsRow base e 1 v xs.length (vals k xs)) (A : Option Addr) (m c : Nat) (hm : m = ys.length) (hr : Rd k w A ys) (h63 : xs.length + ys.length ≤ maxLen) (hbytes : (xs.length + ys.length) * bytes ≤ 140737488355328) (hbase : base ≤ w.heap.size) :
    ∃ v' w', (Builtin.append_ #[t, t] ty #[v, .slice A m c]).run Tryd.prog w = .ok v' w' ∧ w'.ownsRow base e 1 v' (xs.length + ys.length) (vals k xs ++ vals k ys) ∧ w.grownBy w' v.ownBlock := by
  subst hm
  cases A with
  | some ad =>
    obtain ⟨v', w', q1, q2, q3, _⟩ := run_append_own (P := Tryd.prog) w base t ty e i z 1 bytes ht hi hz hsize hby hzs (by decide) v xs.length (vals k xs) hown ad ys.length c (vals k ys) (by rw [vals_len, Nat.mul_one]) (rd_news hr) (vals_one k ys) h63 hbytes hbase
    exact ⟨v', w', q1, q2, q3⟩
  | none =>
    have h0 : ys = [] := by
      rcases ys with _ | ⟨y, ys⟩
      · rfl
      · obtain ⟨g, o, e, _⟩ := hr (by simp)
        cases e
    subst h0
    refine ⟨v, w, ?_, by simpa [vals] using hown, World.grownBy.refl w _⟩
    rcases hown.2 with ⟨rfl, _⟩ | ⟨g, cap, cur, rfl, _, _, hnc, _⟩
    · simp [Builtin.append_, run_underlying ht, sizeOf, typeInfo, hi, Builtin.lenOf, Builtin.firstCells]
    · simp [Builtin.append_, run_underlying ht, sizeOf, typeInfo, hi, Builtin.lenOf, Builtin.firstCells, hnc, storeCells]
theorem wpList_append_rd {ops : Array Oper} {rest : List Oper} {o : Oper} {a : Act} {w : World} {Q : Exit → Act → World → Prop} (hgd : Region.wanted o (yielded ops a.tmps) = true) (s x : Operand) (t : TypeId)
    (ho : o.op = .call { callee := .builtin .append, args := #[s, x], argTypes := #[t, t] }) (base : Nat) (e : TypeId) (i : TypeInfo) (z : Value) (bytes : Nat) (k : IntKind) (ht : Tryd.prog.underlying t = some (.slice e)) (hi : Tryd.prog.info? e = some i) (hz : i.zero = some z) (hsize : i.size = 1) (hby : i.bytes = bytes) (hzs : z.cells.size = 1)
    (v : Value) (xs ys : List Nat) (hs : a.eval s = v) (hown : w.ownsRow base e 1 v xs.length (vals k xs)) (A : Option Addr) (m c : Nat) (hx : a.eval x = .slice A m c) (hm : m = ys.length) (hr : Rd k w A ys) (h63 : xs.length + ys.length ≤ maxLen) (hbytes : (xs.length + ys.length) * bytes ≤ 140737488355328) (hbase : base ≤ w.heap.size)
    (h : ∀ v' w', w'.ownsRow base e 1 v' (xs.length + ys.length) (vals k xs ++ vals k ys) → w.grownBy w' v.ownBlock → wpList Tryd.prog ops Q rest (a.put o.dst v') w') : wpList Tryd.prog ops Q (o :: rest) a w :=
  wpList_step fun K hK => by
    rw [if_pos hgd]
    obtain ⟨v', w', hrun, h2, h3⟩ := run_append_rd base t o.type e i z bytes k ht hi hz hsize hby hzs v xs ys hown A m c hm hr h63 hbytes hbase
    unfold Oper.wp execOp
    simp only [ho, resolve, invoke, builtin, Sem.run_bind, Sem.run_pure, Result.andThen_ok, List.map_toArray, List.map_cons, List.map_nil, hs, hx, hrun]
    exact hK _ _ (h v' w' h2 h3)
/-- What such an append has made. -/
theorem appended_rd {W W2 w1 : World} {k : IntKind} {K : Nat} {t : TypeId} {v v1 : Value} {xs ys : List Nat} (h0 : W2.ownsRow W.heap.size t 1 v xs.length (vals k xs)) (hp : Plus W W2) (h : w1.ownsRow W.heap.size t 1 v1 (xs.length + ys.length) (vals k xs ++ vals k ys)) (hg : W2.grownBy w1 v.ownBlock) (hb : ∀ x ∈ xs ++ ys, x < K) :
    ∃ C d z, v1 = .slice C (xs.length + ys.length) d ∧ w1 = plus W z ∧ Ar k K (plus W z) C (xs ++ ys) (xs.length + ys.length) d := by
  rw [← vals_app, ← List.length_append] at h
  obtain ⟨C, d, rfl, q1, q2, q3⟩ := rd_of_own h
  have hbw : Below W.heap.size W w1 := by
    refine hp.below.grown hg hp.below.size (fun j hj => ?_)
    rcases h0.2 with ⟨rfl, _⟩ | ⟨g, cap, cur, rfl, hbg, _⟩
    · cases hj
    · injection hj with hj
      subst hj
      exact hbg
  obtain ⟨z, rfl⟩ := Plus.of_below hbw
  exact ⟨C, d, z, by rw [List.length_append], rfl, q3, by rw [List.length_append], by rw [← List.length_append]; exact q1, q2, hb⟩



theorem own_lit (w : World) (g v : Nat) (z : Int) (hz : z = v) (hg : g = w.heap.size) : (w.alloc (.cells #[.int .u16 z] 40)).ownsRow w.heap.size 40 1 (.slice (some ⟨g, 0, none⟩) 1 1) ([v] : List Nat).length (vals .u16 [v]) := by
  subst hg hz
  exact ⟨by rfl, .inr ⟨_, 1, _, rfl, Nat.le_refl _, heap_alloc_new w _, by simp, by unfold maxLen; omega, rfl, rfl⟩⟩
def plQ (q x : Nat) : Bool := x != q && x != 10 && x != 13 && x != 92
theorem quo_run (q : Nat) (u t : List Nat) (hp : u.all (plQ q) = true) (f : Nat) : ∀ j k, k + j = u.length → quoM (q :: (u ++ t)) (1 + k) (u.take k) (f + j) = quoM (q :: (u ++ t)) (1 + u.length) u f := by
  intro j
  induction j with
  | zero => intro k hk; have : k = u.length := by omega
            subst this; rw [List.take_length]; rfl
  | succ j ih =>
    intro k hk
    have hlt : k < u.length := by omega
    have hx := List.all_eq_true.1 hp _ (List.getElem_mem hlt)
    unfold plQ at hx
    simp only [Bool.and_eq_true, bne_iff_ne, ne_eq] at hx
    obtain ⟨⟨⟨h1, h2⟩, h3⟩, h4⟩ := hx
    have e1 : uAt (q :: (u ++ t)) (1 + k) = u[k] := by
      unfold uAt
      rw [List.getD_eq_getElem?_getD, Nat.add_comm, List.getElem?_cons_succ, List.getElem?_append_left hlt, List.getElem?_eq_getElem hlt]
      rfl
    have e2 : uAt (q :: (u ++ t)) 0 = q := rfl
    rw [show f + (j + 1) = (f + j) + 1 by omega, quoM, if_pos (by simp; omega), e1, e2, if_neg h1, if_neg (by simp [isEnd, h2, h3]), if_pos h4, show 1 + k + 1 = 1 + (k + 1) by omega]
    have e3 : u.take k ++ [u[k]] = u.take (k + 1) := (List.take_succ_eq_append_getElem hlt).symm
    rw [e3]
    exact ih (k + 1) (by omega)
theorem red_quo (ys : List Nat) (z : Bool) (q : Nat) (hq : q = 39 ∨ q = 34) (h : uAt ys 0 = q) : redM ys z = quoM ys 1 [] ys.length ∧ skpM ys = ⟨0, false, 0⟩ := by
  constructor
  · unfold redM
    rw [h]
    rcases hq with rfl | rfl <;> rfl
  · unfold skpM
    rw [h, begB_head (by rw [h]; rcases hq with rfl | rfl <;> decide), begB_head (by rw [h]; rcases hq with rfl | rfl <;> decide)]
    rcases hq with rfl | rfl <;> rfl
theorem run_end (xs : List Nat) (a : Nat) (nl : Bool) (acc : List Tk) (f : Nat) (h : ¬ a < xs.length) : runM xs a nl acc f = ⟨acc ++ [{ tk0 with a := a, nl := nl }], 0, 0⟩ := by
  cases f with
  | zero => rfl
  | succ f => rw [runM, if_neg h]
/-- Plain units between quotes. -/
theorem tok_quo (q : Nat) (hq : q = 39 ∨ q = 34) (u : List Nat) (hp : u.all (plQ q) = true) (hl : u.length ≤ 4000) : tokM (q :: (u ++ [q])) = ⟨[{ tk0 with k := 4, s := u }, { tk0 with a := u.length + 2 }], 0, 0⟩ := by
  obtain ⟨h1, h2⟩ := red_quo (q :: (u ++ [q])) true q hq rfl
  have hlen : (q :: (u ++ [q])).length = u.length + 2 := by simp
  have hr := quo_run q u [q] hp 2 u.length 0 (by omega)
  rw [List.take_zero, Nat.add_zero, show 2 + u.length = u.length + 2 by omega] at hr
  have he : uAt (q :: (u ++ [q])) (1 + u.length) = q := by
    unfold uAt
    rw [List.getD_eq_getElem?_getD, Nat.add_comm, List.getElem?_cons_succ, List.getElem?_append_right (Nat.le_refl _), Nat.sub_self]
    rfl
  have hq2 : quoM (q :: (u ++ [q])) (1 + u.length) u 2 = ⟨{ tk0 with k := 4, s := u }, 1 + u.length + 1, 0⟩ := by
    rw [quoM, if_pos (by rw [hlen]; omega), he, if_pos (show q = uAt (q :: (u ++ [q])) 0 from rfl)]
  unfold tokM
  rw [if_neg (by rw [hlen]; omega), hlen, runM, if_pos (by rw [hlen]; omega)]
  simp only [List.drop_zero, decide_true]
  rw [h2, h1, hlen, hr, hq2]
  simp only [ne_eq, not_true_eq_false, if_false, Nat.lt_irrefl, Nat.zero_add]
  rw [run_end _ _ _ _ _ (by rw [hlen]; omega), show 1 + u.length + 1 = u.length + 2 by omega]
  rfl
theorem tok_quo0 (q : Nat) (hq : q = 39 ∨ q = 34) (u : List Nat) (hp : u.all (plQ q) = true) (hl : u.length ≤ 4000) : tokM (q :: u) = ⟨[], 0, 5⟩ := by
  obtain ⟨h1, h2⟩ := red_quo (q :: u) true q hq rfl
  have hlen : (q :: u).length = u.length + 1 := by simp
  have hr := quo_run q u [] hp 1 u.length 0 (by omega)
  rw [List.take_zero, Nat.add_zero, List.append_nil, show 1 + u.length = u.length + 1 by omega] at hr
  have hq2 : quoM (q :: u) (u.length + 1) u 1 = flt 5 := quo_end _ _ _ _ (by rw [hlen]; omega)
  unfold tokM
  rw [if_neg (by rw [hlen]; omega), hlen, runM, if_pos (by rw [hlen]; omega)]
  simp only [List.drop_zero, decide_true]
  rw [h2, h1, hlen, hr, hq2]
  rfl
end Go.Proofs.YtaigkjffglbknaaDoor
