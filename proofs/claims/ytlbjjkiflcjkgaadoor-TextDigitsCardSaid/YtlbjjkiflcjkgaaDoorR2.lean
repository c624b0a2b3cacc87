/- Appends of what lies in memory; named contracts of Units and Bytes. -/
import Derived.Test.YtlbjjkiflcjkgaaDoorR1
namespace Go.Proofs.YtlbjjkiflcjkgaaDoor
open Go.RowKit


/-- An append of what lies in memory, nil too, to a row of the call's own. -/
theorem run_append_rd {w : World} (base : Nat) (t ty e : TypeId) (i : TypeInfo) (z : Value) (bytes : Nat) (k : IntKind) (ht : Tryd.prog.underlying t = some (.slice e)) (hi : Tryd.prog.info? e = some i) (hz : i.zero = some z) (hsize : i.size = 1) (hby : i.bytes = bytes) (hzs : z.cells.size = 1)
    (v : Value) (xs ys : List Nat) (hown : w.ownsRow base e 1 v xs.length (vals k xs)) (A : Option Addr) (m c : Nat) (hm : m = ys.length) (hr : Rd k w A ys) (h63 : xs.length + ys.length ≤ maxLen) (hbytes : (xs.length + ys.length) * bytes ≤ 140737488355328) (hbase : base ≤ w.heap.size) :
    ∃ v' w', (Builtin.append_ #[t, t] ty #[v, .slice A m c]).run Tryd.prog w = .ok v' w' ∧ w'.ownsRow base e 1 v' (xs.length + ys.length) (vals k xs ++ vals k ys) ∧ w.grownBy w' v.ownBlock := by
  subst hm
  cases A with
  | some ad =>
    obtain ⟨v', w', q1, q2, q3, _⟩ := run_append_own (P := Tryd.prog) w base t ty e i z 1 bytes ht hi hz hsize hby hzs (by decide) v xs.length (vals k xs) hown ad ys.length c (vals k ys) (by rw [vals_len, Nat.mul_one]) (rd_news hr) (vals_one k ys) h63 hbytes hbase
    exact ⟨v', w', q1, q2, q3⟩
  | none =>
    have h0 : ys = [] := by
      rcases ys with _ | ⟨y, ys⟩
      · rfl
      · obtain ⟨g, o, e, _⟩ := hr (by simp)
        cases e
    subst h0
    refine ⟨v, w, ?_, by simpa [vals] using hown, World.grownBy.refl w _⟩
    rcases hown.2 with ⟨rfl, _⟩ | ⟨g, cap, cur, rfl, _, _, hnc, _⟩
    · simp [Builtin.append_, run_underlying ht, sizeOf, typeInfo, hi, Builtin.lenOf, Builtin.firstCells]
    · simp [Builtin.append_, run_underlying ht, sizeOf, typeInfo, hi, Builtin.lenOf, Builtin.firstCells, hnc, storeCells]
theorem wpList_append_rd {ops : Array Oper} {rest : List Oper} {o : Oper} {a : Act} {w : World} {Q : Exit → Act → World → Prop} (hgd : Region.wanted o (yielded ops a.tmps) = true) (s x : Operand) (t : TypeId)
    (ho : o.op = .call { callee := .builtin .append, args := #[s, x], argTypes := #[t, t] }) (base : Nat) (e : TypeId) (i : TypeInfo) (z : Value) (bytes : Nat) (k : IntKind) (ht : Tryd.prog.underlying t = some (.slice e)) (hi : Tryd.prog.info? e = some i) (hz : i.zero = some z) (hsize : i.size = 1) (hby : i.bytes = bytes) (hzs : z.cells.size = 1)
    (v : Value) (xs ys : List Nat) (hs : a.eval s = v) (hown : w.ownsRow base e 1 v xs.length (vals k xs)) (A : Option Addr) (m c : Nat) (hx : a.eval x = .slice A m c) (hm : m = ys.length) (hr : Rd k w A ys) (h63 : xs.length + ys.length ≤ maxLen) (hbytes : (xs.length + ys.length) * bytes ≤ 140737488355328) (hbase : base ≤ w.heap.size)
    (h : ∀ v' w', w'.ownsRow base e 1 v' (xs.length + ys.length) (vals k xs ++ vals k ys) → w.grownBy w' v.ownBlock → wpList Tryd.prog ops Q rest (a.put o.dst v') w') : wpList Tryd.prog ops Q (o :: rest) a w :=
  wpList_step fun K hK => by
    rw [if_pos hgd]
    obtain ⟨v', w', hrun, h2, h3⟩ := run_append_rd base t o.type e i z bytes k ht hi hz hsize hby hzs v xs ys hown A m c hm hr h63 hbytes hbase
    unfold Oper.wp execOp
    simp only [ho, resolve, invoke, builtin, Sem.run_bind, Sem.run_pure, Result.andThen_ok, List.map_toArray, List.map_cons, List.map_nil, hs, hx, hrun]
    exact hK _ _ (h v' w' h2 h3)
/-- What such an append has made. -/
theorem appended_rd {W W2 w1 : World} {k : IntKind} {K : Nat} {t : TypeId} {v v1 : Value} {xs ys : List Nat} (h0 : W2.ownsRow W.heap.size t 1 v xs.length (vals k xs)) (hp : Plus W W2) (h : w1.ownsRow W.heap.size t 1 v1 (xs.length + ys.length) (vals k xs ++ vals k ys)) (hg : W2.grownBy w1 v.ownBlock) (hb : ∀ x ∈ xs ++ ys, x < K) :
    ∃ C d z, v1 = .slice C (xs.length + ys.length) d ∧ w1 = plus W z ∧ Ar k K (plus W z) C (xs ++ ys) (xs.length + ys.length) d := by
  rw [← vals_app, ← List.length_append] at h
  obtain ⟨C, d, rfl, q1, q2, q3⟩ := rd_of_own h
  have hbw : Below W.heap.size W w1 := by
    refine hp.below.grown hg hp.below.size (fun j hj => ?_)
    rcases h0.2 with ⟨rfl, _⟩ | ⟨g, cap, cur, rfl, hbg, _⟩
    · cases hj
    · injection hj with hj
      subst hj
      exact hbg
  obtain ⟨z, rfl⟩ := Plus.of_below hbw
  exact ⟨C, d, z, by rw [List.length_append], rfl, q3, by rw [List.length_append], by rw [← List.length_append]; exact q1, q2, hb⟩

/-- What Units answers of bytes: units, a place, an error. -/
def UnN (xs L : List Nat) (at_ er : Int) : Prop :=
  (4096 < xs.length ∧ L = [] ∧ at_ = 0 ∧ er = 3) ∨ (xs.length ≤ 4096 ∧ (deu xs).2.2 = true ∧ L = (deu xs).1 ∧ at_ = 0 ∧ er = 0) ∨ (xs.length ≤ 4096 ∧ (deu xs).2.2 = false ∧ L = [] ∧ at_ = ((deu xs).2.1 : Nat) ∧ er = 2)
theorem units_n {A : Option Addr} {xs L : List Nat} {n c : Nat} {at_ er : Int} (h : Hid (UnN xs L at_ er)) (w : World) (hL : Lai w) (ha : Ar .u8 256 w A xs n c) :
    Calls Tryd.prog 15 #[.slice A n c] w fun e w' => ∃ (C : Option Addr) (d : Nat), e = .returned (.tuple #[.slice C L.length d, .int .i64 at_, .int .i64 er]) ∧ Ar .u16 65536 w' C L L.length d ∧ Plus w w' := by
  have hn := ha.len
  rcases h.out with ⟨h0, rfl, rfl, rfl⟩ | ⟨h0, h1, rfl, rfl, rfl⟩ | ⟨h0, h1, rfl, rfl, rfl⟩
  · refine (units_long A n c w (by omega)).mono ?_
    rintro e w' ⟨C, d, rfl, q1, q2, q3, q4⟩
    exact ⟨C, d, rfl, ⟨q3, rfl, q1, q2, fun x hx => by simp at hx⟩, q4⟩
  · refine (units_h A xs n c w (Lib.hid hL) ha (by omega) (deu xs).1 0 0 (Lib.hid fun _ => ⟨rfl, rfl, rfl⟩) (Lib.hid fun q => by rw [h1] at q; cases q)).mono ?_
    rintro e w' ⟨C, d, rfl, q1, q2, q3, q4⟩
    exact ⟨C, d, rfl, ⟨q3, rfl, q1, q2, deu_U ha.bd⟩, q4⟩
  · refine (units_h A xs n c w (Lib.hid hL) ha (by omega) [] (deu xs).2.1 2 (Lib.hid fun q => by rw [h1] at q; cases q) (Lib.hid fun _ => ⟨rfl, rfl, rfl⟩)).mono ?_
    rintro e w' ⟨C, d, rfl, q1, q2, q3, q4⟩
    exact ⟨C, d, rfl, ⟨q3, rfl, q1, q2, fun x hx => by simp at hx⟩, q4⟩
def ByN (xs G : List Nat) (er : Int) : Prop := (enc xs = some G ∧ er = 0) ∨ (enc xs = none ∧ G = [] ∧ er = 2)
theorem bytes_n {A : Option Addr} {xs G : List Nat} {n c : Nat} {er : Int} (h : Hid (ByN xs G er)) (w : World) (ha : Ar .u16 65536 w A xs n c) (hs : n ≤ 1099511627776) :
    Calls Tryd.prog 17 #[.slice A n c] w fun e w' => ∃ (C : Option Addr) (d : Nat), e = .returned (.tuple #[.slice C G.length d, .int .i64 er]) ∧ Ar .u8 256 w' C G G.length d ∧ Plus w w' := by
  rcases h.out with ⟨h1, rfl⟩ | ⟨h1, rfl, rfl⟩
  · refine (bytes_c A xs n c w ha hs _ (Lib.hid h1)).mono ?_
    rintro e w' ⟨C, d, rfl, q1, q2, q3, q4⟩
    exact ⟨C, d, rfl, ⟨q3, rfl, q1, q2, (deu_enc xs.length xs (Nat.le_refl _) ha.bd G h1).1⟩, q4⟩
  · refine (bytes_c A xs n c w ha hs _ (Lib.hid h1)).mono ?_
    rintro e w' ⟨C, d, rfl, q1, q2, q3, q4⟩
    exact ⟨C, d, rfl, ⟨q3, rfl, q1, q2, fun x hx => by simp at hx⟩, q4⟩
theorem refUnits_n {A C : Option Addr} {xs ys : List Nat} {n c m d : Nat} {b : Bool} (h : Hid (decide (xs = ys) = b)) (w : World) (ha : Ar .u16 65536 w A xs n c) (hb : Ar .u16 65536 w C ys m d) :
    Calls Tryd.prog 19 #[.slice A n c, .slice C m d] w fun e w' => e = .returned (.bool b) ∧ Plus w w' := by
  rw [← h.out]; exact refUnits_c A C xs ys n c m d w ha hb
theorem refBytes_n {A C : Option Addr} {xs ys : List Nat} {n c m d : Nat} {b : Bool} (h : Hid (decide (xs = ys) = b)) (w : World) (ha : Ar .u8 256 w A xs n c) (hb : Ar .u8 256 w C ys m d) :
    Calls Tryd.prog 20 #[.slice A n c, .slice C m d] w fun e w' => e = .returned (.bool b) ∧ w = w' := by
  rw [← h.out]; exact refBytes_c A C xs ys n c m d w ha hb
theorem Ar.take {k : IntKind} {K : Nat} {w : World} {A : Option Addr} {xs : List Nat} {n c : Nat} (h : Ar k K w A xs n c) {q : Nat} (hq : q ≤ n) : Ar k K w A (xs.take q) q c :=
  ⟨h.rd.take q, by rw [List.length_take, ← h.len]; omega, by have := h.cap; omega, h.max, fun x hx => h.bd x (List.mem_of_mem_take hx)⟩
end Go.Proofs.YtlbjjkiflcjkgaaDoor
