/- Rows that a call makes; Clone, clone. -/
import Derived.WalkKit
import Derived.WalkSpells
import Derived.WalkLawsBesides
import Derived.Handy
import Derived.Deep.RegionHeld3
import Derived.Deep.DeepCutAuto
import Derived.Deep.QuietTactic
import Derived.BigQuiet
import Derived.Lib.Hide
import Derived.KernelRfl
import Derived.WalkMore
import Derived.Deep.LoopGhost
import Derived.IntWalk
import Derived.Laws.AppendOwn
import Derived.Deep.OwnRows
import Derived.Lib.SliceRun
import Derived.Test.YtmfdlcicbiincaaDoorE9
namespace Go.Proofs.YtmfdlcicbiincaaDoor
open Go.RowKit

theorem info_parts {e : TypeId} {z : Value} {s b : Nat} (h : (Tryd.prog.info? e).map (fun i => (i.zero, i.size, i.bytes)) = some (some z, s, b)) : ∃ i0, Tryd.prog.info? e = some i0 ∧ i0.zero = some z ∧ i0.size = s ∧ i0.bytes = b := by
  cases q : Tryd.prog.info? e with
  | none => rw [q] at h; cases h
  | some i0 =>
    rw [q] at h
    simp only [Option.map_some, Option.some.injEq, Prod.mk.injEq] at h
    exact ⟨i0, rfl, h.1, h.2.1, h.2.2⟩
theorem infoU8 : (Tryd.prog.info? 5).map (fun i => (i.zero, i.size, i.bytes)) = some (some (.int .u8 0), 1, 1) := by kernel_rfl
theorem infoInt : (Tryd.prog.info? 3).map (fun i => (i.zero, i.size, i.bytes)) = some (some (.int .i64 0), 1, 8) := by kernel_rfl
section
variable {w w' : World} {B e z n : Nat} {v : Value} {l : List Value}
theorem own_plus (h : w.ownsRow B e z v n l) (hp : Plus w w') : w'.ownsRow B e z v n l := by
  refine ⟨h.1, ?_⟩
  rcases h.2 with hh | ⟨g, cap, cur, hv, hb, hg, r⟩
  · exact .inl hh
  · refine .inr ⟨g, cap, cur, hv, hb, ?_, r⟩
    rw [hp.below.block g (Array.getElem?_eq_some_iff.1 hg).1]
    exact hg
theorem own_base {B2 : Nat} (h : w.ownsRow B2 e z v n l) (hb : B ≤ B2) : w.ownsRow B e z v n l := by
  refine ⟨h.1, ?_⟩
  rcases h.2 with hh | ⟨g, cap, cur, hv, hb2, r⟩
  · exact .inl hh
  · exact .inr ⟨g, cap, cur, hv, by omega, r⟩
theorem own_ty (h : w.ownsRow B e z v n l) : ∀ g, v.ownBlock = some g → ∃ cur z, w.heap[g]? = some (.cells cur e z) := fun g he => by
  rcases h.2 with ⟨rfl, _⟩ | ⟨g2, cap, cur, rfl, hb, hg, _⟩
  · cases he
  · injection he with he
    subst he
    exact ⟨cur, (0, 0), hg⟩
theorem own_grown {e2 : TypeId} {row : Option Nat} (h : w.ownsRow B e z v n l) (hg : w.grownBy w' row) (hr : ∀ g, row = some g → ∃ cur z, w.heap[g]? = some (.cells cur e2 z)) (hne : e ≠ e2) : w'.ownsRow B e z v n l := by
  refine ⟨h.1, ?_⟩
  rcases h.2 with hh | ⟨g, cap, cur, hv, hb, hh, r⟩
  · exact .inl hh
  · refine .inr ⟨g, cap, cur, hv, hb, ?_, r⟩
    rw [hg.block _ (Array.getElem?_eq_some_iff.1 hh).1 (fun e3 => ?_)]
    · exact hh
    · obtain ⟨cur2, z2, hh2⟩ := hr _ e3.symm
      rw [hh] at hh2
      injection hh2 with hh2
      injection hh2 with _ hh2 _
      exact hne hh2
theorem own_set {e2 : TypeId} {b i : Nat} {u : Value} {cs : Array Value} {y : Nat × Nat} (h : w.ownsRow B e z v n l) (hb : w.heap[b]? = some (.cells cs e2 y)) (hne : e ≠ e2) : (w.setCell ⟨b, i, none⟩ u).ownsRow B e z v n l := by
  refine ⟨h.1, ?_⟩
  rcases h.2 with hh | ⟨g, cap, cur, hv, hb2, hh, r⟩
  · exact .inl hh
  · refine .inr ⟨g, cap, cur, hv, hb2, ?_, r⟩
    have hgb : b ≠ g := fun e3 => by
      subst e3
      rw [hh] at hb
      injection hb with hb
      injection hb with _ hb _
      exact hne hb
    simp only [World.setCell, Array.getElem?_modify, if_neg hgb]
    exact hh
theorem news_at' (w : World) (us : List Value) (t : TypeId) (g : Nat) (hg : g = w.heap.size) : ∀ j v, us[j]? = some v → (w.alloc (.cells us.toArray t)).cell? ((⟨g, 0, none⟩ : Addr).add j) = some v := fun j v h => by
  subst hg
  rw [zero_add_addr, World.cell?_alloc_at _ _ _ _ rfl]
  simpa using h
theorem below_own {w wr w1 : World} {o : Obj} (h : wr.ownsRow B e z v n l) (hg : (wr.alloc o).grownBy w1 v.ownBlock) {B0 : Nat} (hB : Below B0 w wr) (hs : B0 ≤ wr.heap.size) (hle : B0 ≤ B) : Below B0 w w1 := by
  refine (hB.alloc hs o).grown hg (by rw [World.size_alloc]; omega) (fun j hj => ?_)
  rcases h.2 with ⟨rfl, _⟩ | ⟨g, cap, cur, rfl, hbg, _⟩
  · cases hj
  · injection hj with hj
    subst hj
    show B0 ≤ g
    omega
end
theorem Rd.news {k : IntKind} {w : World} {ad : Addr} {xs : List Int} (h : Rd k w (some ad) xs) : ∀ j u, (vals k xs)[j]? = some u → w.cell? (ad.add j) = some u := fun j u hj => by
  unfold vals at hj
  rw [List.getElem?_map] at hj
  by_cases hlt : j < xs.length
  · rw [List.getElem?_eq_getElem hlt] at hj
    obtain ⟨g, o, e, _, hc⟩ := h (by omega)
    injection e with e
    subst e
    rw [add_addr, hc j hlt, List.getD_eq_getElem?_getD, List.getElem?_eq_getElem hlt]
    simpa using hj
  · rw [List.getElem?_eq_none (by omega)] at hj
    cases hj
theorem one_vals (k : IntKind) (xs : List Int) : ∀ u ∈ vals k xs, u.oneCell' = true := fun u hu => by
  obtain ⟨x, _, rfl⟩ := List.mem_map.1 hu
  rfl
/-- A copy: a row of the call's own. -/
def RetRow (k : IntKind) (t : TypeId) (xs : List Int) (w : World) (e : Ending) (w' : World) : Prop := ∃ (D : Option Addr) (c : Nat), e = .returned (.slice D xs.length c) ∧ w'.ownsRow w.heap.size t 1 (.slice D xs.length c) xs.length (vals k xs) ∧ Plus w w'
theorem row_form {k : IntKind} {w : World} {b e : Nat} {v : Value} {xs : List Int} (h : w.ownsRow b e 1 v xs.length (vals k xs)) : ∃ D c, v = .slice D xs.length c := by
  rcases h.2 with ⟨rfl, h0⟩ | ⟨g, cap, cur, rfl, _⟩
  · rw [h0]; exact ⟨none, 0, rfl⟩
  · exact ⟨_, _, rfl⟩
set_option maxRecDepth 100000 in
set_option maxHeartbeats 4000000 in
theorem cloneB_c (A : Option Addr) (xs : List Int) (n c : Nat) (w : World) (h : Ar .u8 w A xs n c) (hl : n ≤ 1048576) :
    Calls Tryd.prog 81 #[.slice A n c] w (RetRow .u8 5 xs w) := by
  obtain ⟨h, rfl, _, _⟩ := h
  obtain ⟨i0, hi, hz0, hz1, hz2⟩ := info_parts infoU8
  have q22 : ∀ (w : World) (a : Option Addr) (n c n' c' : Nat), (binOp .eql 39 (.slice a n c) (.slice none n' c')).run Tryd.prog w = .ok (.bool a.isNone) w := fun w a n c n' c' => Lib.run_eql_slice_nil w _ _ a n c n' c' Tryd.underlying39
  have H := Lib.hid h
  rcases A with _ | ad
  · have h0 : xs = [] := by
      rcases xs with _ | ⟨x, xs⟩
      · rfl
      · obtain ⟨g, o, e, _⟩ := h (by simp)
        cases e
    subst h0
    clear h
    go_enter Tryd.func81, Tryd.ntmps81
    go_wp2
    go_ret
    exact ⟨none, 0, rfl, World.ownsRow_nil _ _ _ _, Plus.refl _⟩
  · clear h
    go_enter Tryd.func81, Tryd.ntmps81
    go_wp2_with (at_builtin; refine wpList_append_own _ rfl _ _ 39 rfl w.heap.size 5 i0 (.int .u8 0) 1 1 Tryd.underlying39 hi hz0 hz1 hz2 rfl (by decide) _ _ _ rfl (World.ownsRow_made w #[] 0 (Nat.le_refl _) (Nat.zero_le _) rfl) ad xs.length c (vals .u8 xs) rfl (by rw [vals_len, Nat.mul_one]) (H.out.alloc _).news (one_vals .u8 xs) (by unfold maxLen; omega) (by omega) (by simp) ?_; intro v1 w1 hown1 hgr1 _; have HW1 := Lib.hid hown1; have HG1 := Lib.hid hgr1; clear hown1 hgr1)
    go_ret
    have ho := HW1.out
    rw [Nat.zero_add, List.nil_append] at ho
    obtain ⟨D, k, rfl⟩ := row_form ho
    exact ⟨D, k, rfl, ho, Plus.of_below (((Below.refl _ w).alloc (Nat.le_refl _) _).grown HG1.out (by simp) (fun k hk => by have hk' : some w.heap.size = some k := hk; injection hk' with hk'; omega))⟩
set_option maxRecDepth 100000 in
set_option maxHeartbeats 4000000 in
theorem cloneI_c (A : Option Addr) (xs : List Int) (n c : Nat) (w : World) (h : Ar .i64 w A xs n c) (hl : n ≤ 1048576) :
    Calls Tryd.prog 82 #[.slice A n c] w (RetRow .i64 3 xs w) := by
  obtain ⟨h, rfl, _, _⟩ := h
  obtain ⟨i0, hi, hz0, hz1, hz2⟩ := info_parts infoInt
  have q22 : ∀ (w : World) (a : Option Addr) (n c n' c' : Nat), (binOp .eql 40 (.slice a n c) (.slice none n' c')).run Tryd.prog w = .ok (.bool a.isNone) w := fun w a n c n' c' => Lib.run_eql_slice_nil w _ _ a n c n' c' Tryd.underlying40
  have H := Lib.hid h
  rcases A with _ | ad
  · have h0 : xs = [] := by
      rcases xs with _ | ⟨x, xs⟩
      · rfl
      · obtain ⟨g, o, e, _⟩ := h (by simp)
        cases e
    subst h0
    clear h
    go_enter Tryd.func82, Tryd.ntmps82
    go_wp2
    go_ret
    exact ⟨none, 0, rfl, World.ownsRow_nil _ _ _ _, Plus.refl _⟩
  · clear h
    go_enter Tryd.func82, Tryd.ntmps82
    go_wp2_with (at_builtin; refine wpList_append_own _ rfl _ _ 40 rfl w.heap.size 3 i0 (.int .i64 0) 1 8 Tryd.underlying40 hi hz0 hz1 hz2 rfl (by decide) _ _ _ rfl (World.ownsRow_made w #[] 0 (Nat.le_refl _) (Nat.zero_le _) rfl) ad xs.length c (vals .i64 xs) rfl (by rw [vals_len, Nat.mul_one]) (H.out.alloc _).news (one_vals .i64 xs) (by unfold maxLen; omega) (by omega) (by simp) ?_; intro v1 w1 hown1 hgr1 _; have HW1 := Lib.hid hown1; have HG1 := Lib.hid hgr1; clear hown1 hgr1)
    go_ret
    have ho := HW1.out
    rw [Nat.zero_add, List.nil_append] at ho
    obtain ⟨D, k, rfl⟩ := row_form ho
    exact ⟨D, k, rfl, ho, Plus.of_below (((Below.refl _ w).alloc (Nat.le_refl _) _).grown HG1.out (by simp) (fun k hk => by have hk' : some w.heap.size = some k := hk; injection hk' with hk'; omega))⟩
/-- An event's lists are rows of the call's own. -/
structure OwnE (B : Nat) (w : World) (y : ER) : Prop where
  rr : w.ownsRow B 5 1 (.slice y.R y.e.r.length y.cr) y.e.r.length (vals .u8 y.e.r)
  rv : w.ownsRow B 5 1 (.slice y.W y.e.w.length y.cw) y.e.w.length (vals .u8 y.e.w)
  rf : w.ownsRow B 3 1 (.slice y.F y.e.f.length y.cf) y.e.f.length (vals .i64 y.e.f)
  br : By y.e.r
  bw : By y.e.w
theorem ar_of_own {k : IntKind} {w : World} {b e c : Nat} {D : Option Addr} {xs : List Int} (h : w.ownsRow b e 1 (.slice D xs.length c) xs.length (vals k xs)) : Ar k w D xs xs.length c := by
  obtain ⟨A, c2, e1, h1, h2, h3⟩ := rd_of_own h
  injection e1 with q1 q2 q3
  subst q1 q3
  exact ⟨h3, rfl, h1, h2⟩
theorem OwnE.erm {B : Nat} {w : World} {y : ER} (h : OwnE B w y) : ERM w y := ⟨ar_of_own h.rr, ar_of_own h.rv, ar_of_own h.rf, h.br, h.bw⟩
theorem OwnE.plus {B : Nat} {w w' : World} {y : ER} (h : OwnE B w y) (hp : Plus w w') : OwnE B w' y := ⟨own_plus h.rr hp, own_plus h.rv hp, own_plus h.rf hp, h.br, h.bw⟩
theorem OwnE.base {B B2 : Nat} {w : World} {y : ER} (h : OwnE B2 w y) (hb : B ≤ B2) : OwnE B w y := ⟨own_base h.rr hb, own_base h.rv hb, own_base h.rf hb, h.br, h.bw⟩
theorem OwnE.grown {B : Nat} {w w' : World} {y : ER} {e2 : TypeId} {row : Option Nat} (h : OwnE B w y) (hg : w.grownBy w' row) (hr : ∀ g, row = some g → ∃ cur z, w.heap[g]? = some (.cells cur e2 z)) (h5 : 5 ≠ e2) (h3 : 3 ≠ e2) : OwnE B w' y := ⟨own_grown h.rr hg hr h5, own_grown h.rv hg hr h5, own_grown h.rf hg hr h3, h.br, h.bw⟩
theorem OwnE.set {B : Nat} {w : World} {y : ER} {e2 : TypeId} {b i : Nat} {u : Value} {cs : Array Value} {z : Nat × Nat} (h : OwnE B w y) (hb : w.heap[b]? = some (.cells cs e2 z)) (h5 : 5 ≠ e2) (h3 : 3 ≠ e2) : OwnE B (w.setCell ⟨b, i, none⟩ u) y := ⟨own_set h.rr hb h5, own_set h.rv hb h5, own_set h.rf hb h3, h.br, h.bw⟩
/-- A copy of an event. -/
def RetCl (x : Ev) (w : World) (e : Ending) (w' : World) : Prop := ∃ (R : Option Addr) (cr : Nat) (W : Option Addr) (cw : Nat) (F : Option Addr) (cf : Nat), e = .returned (.agg (evL ⟨x, R, cr, W, cw, F, cf⟩).toArray) ∧ OwnE w.heap.size w' ⟨x, R, cr, W, cw, F, cf⟩ ∧ Plus w w'
theorem own_swap {W1 W2 : World} {x : More} {B e z n : Nat} {v : Value} {l : List Value} (h : (plus W1 x).ownsRow B e z v n l) (hs : W1.heap.size = W2.heap.size) (hb : W1.heap.size ≤ B) : (plus W2 x).ownsRow B e z v n l := by
  refine ⟨h.1, ?_⟩
  rcases h.2 with hh | ⟨g, cap, cur, hv, hb2, hh, r⟩
  · exact .inl hh
  · refine .inr ⟨g, cap, cur, hv, hb2, ?_, r⟩
    simp only [plus] at hh ⊢
    rw [Array.getElem?_append_right (by omega)] at hh ⊢
    rw [← hs]
    exact hh
theorem pos1 {W1 W2 : World} {x y z : More} {B0 B e s n : Nat} {v : Value} {l : List Value} (h : (plus W1 x).ownsRow B e s v n l) (hs : W1.heap.size = W2.heap.size) (hb : W1.heap.size ≤ B) (h0 : B0 ≤ B) : (plus (plus (plus W2 x) y) z).ownsRow B0 e s v n l :=
  own_base (own_plus (own_plus (own_swap h hs hb) (Plus.is _)) (Plus.is _)) h0
theorem pos2 {W1 W2 : World} {x y z : More} {B0 B e s n : Nat} {v : Value} {l : List Value} (h : (plus (plus W1 y) x).ownsRow B e s v n l) (hs : W1.heap.size = W2.heap.size) (hb : (plus W1 y).heap.size ≤ B) (h0 : B0 ≤ B) : (plus (plus (plus W2 y) x) z).ownsRow B0 e s v n l :=
  own_base (own_plus (own_swap h (by rw [size_plus, size_plus, hs]) hb) (Plus.is _)) h0
theorem pos3 {W1 W2 : World} {x y z : More} {B0 B e s n : Nat} {v : Value} {l : List Value} (h : (plus (plus (plus W1 y) z) x).ownsRow B e s v n l) (hs : W1.heap.size = W2.heap.size) (hb : (plus (plus W1 y) z).heap.size ≤ B) (h0 : B0 ≤ B) : (plus (plus (plus W2 y) z) x).ownsRow B0 e s v n l :=
  own_base (own_swap h (by rw [size_plus, size_plus, size_plus, size_plus, hs]) hb) h0
set_option maxRecDepth 100000 in
set_option maxHeartbeats 4000000 in
theorem cloneE_c {g k b a z : Int} {s t : Bool} {R W F : Option Addr} {nr cr nw cw nf cf : Nat} {xs us fs : List Int} (w : World) (h : EM w R W F xs us fs nr cr nw cw nf cf) (h1 : nr ≤ 1048576) (h2 : nw ≤ 1048576) (h3 : nf ≤ 1048576) : Calls Tryd.prog 70 #[Value.agg #[.int .i64 g, .int .i64 k, .bool s, .bool t, .int .i64 b, .int .i64 a, .int .i64 z, .slice R nr cr, .slice W nw cw, .slice F nf cf]] w (RetCl ⟨g, k, s, t, b, a, z, xs, us, fs⟩ w) := by
  have H := Lib.hid h
  clear h
  go_enter Tryd.func70, Tryd.ntmps70
  go_wp2_with fail
  go_region_with (first | (go_at_call_of 81 (Value.slice R nr cr); (with_reducible refine (cloneB_c _ _ _ _ _ (H.out.er.plus (by repeat' (first | exact Plus.refl _ | refine Plus.alloc ?_ _ | refine Plus.plus ?_ _ | refine Plus.drew ?_ | refine Plus.drewN ?_ _))) (by omega)).mono ?_); rintro e x1w ⟨D1, D1c, rfl, hD1, ⟨x1, rfl⟩⟩; have HD1 := Lib.hid hD1; clear hD1) | (go_at_call_of 81 (Value.slice W nw cw); (with_reducible refine (cloneB_c _ _ _ _ _ (H.out.ew.plus (by repeat' (first | exact Plus.refl _ | refine Plus.alloc ?_ _ | refine Plus.plus ?_ _ | refine Plus.drew ?_ | refine Plus.drewN ?_ _))) (by omega)).mono ?_); rintro e x2w ⟨D2, D2c, rfl, hD2, ⟨x2, rfl⟩⟩; have HD2 := Lib.hid hD2; clear hD2) | (go_at_call_of 82 (Value.slice F nf cf); (with_reducible refine (cloneI_c _ _ _ _ _ (H.out.ef.plus (by repeat' (first | exact Plus.refl _ | refine Plus.alloc ?_ _ | refine Plus.plus ?_ _ | refine Plus.drew ?_ | refine Plus.drewN ?_ _))) (by omega)).mono ?_); rintro e x3w ⟨D3, D3c, rfl, hD3, ⟨x3, rfl⟩⟩; have HD3 := Lib.hid hD3; clear hD3))
  all_goals go_wp2_with fail
  all_goals go_returns
  all_goals refine ⟨D1, D1c, D2, D2c, D3, D3c, rfl, ⟨?_, ?_, ?_, H.out.br, H.out.bw⟩, (by repeat' (first | exact Plus.refl _ | refine Plus.alloc ?_ _ | refine Plus.plus ?_ _ | refine Plus.drew ?_ | refine Plus.drewN ?_ _))⟩
  all_goals dsimp only
  all_goals first | with_reducible exact pos1 HD1.out (by simp [go_sem]) (Nat.le_refl _) (by simp [go_sem] <;> omega) | with_reducible exact pos2 HD1.out (by simp [go_sem]) (Nat.le_refl _) (by simp [go_sem] <;> omega) | with_reducible exact pos3 HD1.out (by simp [go_sem]) (Nat.le_refl _) (by simp [go_sem] <;> omega) | with_reducible exact pos1 HD2.out (by simp [go_sem]) (Nat.le_refl _) (by simp [go_sem] <;> omega) | with_reducible exact pos2 HD2.out (by simp [go_sem]) (Nat.le_refl _) (by simp [go_sem] <;> omega) | with_reducible exact pos3 HD2.out (by simp [go_sem]) (Nat.le_refl _) (by simp [go_sem] <;> omega) | with_reducible exact pos1 HD3.out (by simp [go_sem]) (Nat.le_refl _) (by simp [go_sem] <;> omega) | with_reducible exact pos2 HD3.out (by simp [go_sem]) (Nat.le_refl _) (by simp [go_sem] <;> omega) | with_reducible exact pos3 HD3.out (by simp [go_sem]) (Nat.le_refl _) (by simp [go_sem] <;> omega)
end Go.Proofs.YtmfdlcicbiincaaDoor
