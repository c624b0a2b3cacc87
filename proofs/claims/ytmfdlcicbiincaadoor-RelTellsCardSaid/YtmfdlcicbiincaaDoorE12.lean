/- Head: events. -/
import Derived.WalkKit
import Derived.WalkSpells
import Derived.WalkLawsBesides
import Derived.Handy
import Derived.Deep.RegionHeld3
import Derived.Deep.DeepCutAuto
import Derived.Deep.QuietTactic
import Derived.BigQuiet
import Derived.Lib.Hide
import Derived.KernelRfl
import Derived.WalkMore
import Derived.Deep.LoopGhost
import Derived.IntWalk
import Derived.Deep.RegionLaw
import Derived.Test.YtmfdlcicbiincaaDoorE11
namespace Go.Proofs.YtmfdlcicbiincaaDoor
open Go.RowKit

theorem step_append_own {P : Program} {ops : Array Oper} {o : Oper} {a : Act} {w : World} {K : Act → World → Prop} {Q : Exit → Act → World → Prop} {E : Prop}
    (hg : o.guard = none) (s x : Operand) (t : TypeId) (hop : o.op = Op.call { callee := Callee.builtin Builtin.append, args := #[s, x], argTypes := #[t, t] })
    (base : Nat) (e : TypeId) (i : TypeInfo) (z : Value) (size bytes : Nat) (h1 : P.underlying t = some (.slice e)) (h2 : P.info? e = some i) (h3 : i.zero = some z) (h4 : i.size = size) (h5 : i.bytes = bytes) (h6 : z.cells.size = size) (h7 : 0 < size)
    (v : Value) (n : Nat) (xs : List Value) (hs : a.eval s = v) (hown : w.ownsRow base e size v n xs)
    (ad : Addr) (m c : Nat) (news : List Value) (hx : a.eval x = .slice (some ad) m c) (hn : news.length = m * size) (hc : ∀ j u, news[j]? = some u → w.cell? (ad.add j) = some u) (h1c : ∀ u ∈ news, u.oneCell' = true)
    (b1 : n + m ≤ maxLen) (b2 : (n + m) * bytes ≤ 140737488355328) (hbase : base ≤ w.heap.size)
    (hK : ∀ v' w', w'.ownsRow base e size v' (n + m) (xs ++ news) → w.grownBy w' v.ownBlock → K (a.put o.dst v') w') :
    if Region.wanted o (yielded ops a.tmps) = true then Oper.wp P o a w K Q else E := by
  have hw : Region.wanted o (yielded ops a.tmps) = true := by simp [Region.wanted, hg]
  rw [if_pos hw]
  subst hs
  obtain ⟨v', w', hrun, r1, r2, _⟩ := run_append_own (P := P) w base t o.type e i z size bytes h1 h2 h3 h4 h5 h6 h7 _ n xs hown ad m c news hn hc h1c b1 b2 hbase
  unfold Oper.wp
  simp [execOp, hop, resolve, invoke, builtin, hx, hrun, Result.andThen]
  exact hK v' w' r1 r2
/-- A log's box. -/
def Bx (w : World) (b : Nat) (u v : Value) : Prop := w.heap[b]? = some (.cells #[u, v] 25 (0, 0))
section
variable {w w' : World} {b : Nat} {u v : Value}
theorem Bx.lt (h : Bx w b u v) : b < w.heap.size := (Array.getElem?_eq_some_iff.1 h).1
theorem Bx.c0 (h : Bx w b u v) : w.cell? ⟨b, 0, none⟩ = some u := by rw [cell_of_row w b 0 _ _ _ h]; rfl
theorem Bx.c1 (h : Bx w b u v) : w.cell? ⟨b, 1, none⟩ = some v := by rw [cell_of_row w b 1 _ _ _ h]; rfl
theorem Bx.frozen (h : Bx w b u v) (j : Nat) : w.frozen? ⟨b, j, none⟩ = false := by
  unfold Bx at h
  simp [World.frozen?, h]
theorem Bx.plus (h : Bx w b u v) (hp : Plus w w') : Bx w' b u v := (hp.below.block b h.lt).trans h
theorem Bx.grown {e2 : TypeId} {row : Option Nat} (h : Bx w b u v) (hg : w.grownBy w' row) (hr : ∀ g, row = some g → ∃ cur z, w.heap[g]? = some (.cells cur e2 z)) (hne : 25 ≠ e2) : Bx w' b u v := by
  refine (hg.block _ h.lt (fun e3 => ?_)).trans h
  obtain ⟨cur2, z2, hh2⟩ := hr _ e3.symm
  unfold Bx at h
  rw [h] at hh2
  injection hh2 with hh2
  injection hh2 with _ hh2 _
  exact hne hh2
theorem Bx.set0 (h : Bx w b u v) (x : Value) : Bx (w.setCell ⟨b, 0, none⟩ x) b x v := by
  unfold Bx at h ⊢
  simp [World.setCell, Array.getElem?_modify, h]
theorem Bx.set1 (h : Bx w b u v) (x : Value) : Bx (w.setCell ⟨b, 1, none⟩ x) b u x := by
  unfold Bx at h ⊢
  simp [World.setCell, Array.getElem?_modify, h]
theorem Bx.other (h : Bx w b u v) {b2 i : Nat} (hne : b2 ≠ b) (x : Value) : Bx (w.setCell ⟨b2, i, none⟩ x) b u v := by
  unfold Bx at h ⊢
  simp only [World.setCell, Array.getElem?_modify, if_neg hne]
  exact h
end
theorem bx_new (w : World) (u v : Value) : Bx (w.alloc (.cells #[u, v] 25)) w.heap.size u v := heap_alloc_new w _
theorem bx_new' (w : World) (u v : Value) {b : Nat} (hb : b = w.heap.size) : Bx (w.alloc (.cells #[u, v] 25)) b u v := by
  subst hb
  exact heap_alloc_new w _
theorem own_form {w : World} {B e z n : Nat} {v : Value} {l : List Value} (h : w.ownsRow B e z v n l) : ∃ D c, v = .slice D n c := by
  rcases h.2 with ⟨rfl, rfl⟩ | ⟨g, cap, cur, rfl, _⟩
  · exact ⟨none, 0, rfl⟩
  · exact ⟨_, _, rfl⟩
theorem take_snoc {l : List Ev} {k : Nat} {x : Ev} (h : l.getD k default = x) (hk : k < l.length) : l.take (k + 1) = l.take k ++ [x] := by
  rw [List.take_succ_eq_append_getElem hk]
  rw [List.getD_eq_getElem?_getD, List.getElem?_eq_getElem hk] at h
  simp only [Option.getD_some] at h
  rw [h]
def rowE (ys : List ER) : List Value := ys.flatMap evL
theorem rowE_snoc (ys : List ER) (y : ER) : rowE (ys ++ [y]) = rowE ys ++ evL y := by unfold rowE; rw [List.flatMap_append]; simp
theorem infoEv : (Tryd.prog.info? 42).map (fun i => (i.zero, i.size, i.bytes)) = some (some (.agg #[.int .i64 0, .int .i64 0, .bool false, .bool false, .int .i64 0, .int .i64 0, .int .i64 0, .slice none 0 0, .slice none 0 0, .slice none 0 0]), 10, 120) := by kernel_rfl
theorem one_ev (x : ER) : ∀ u ∈ evL x, u.oneCell' = true := fun u h => by
  unfold evL at h
  simp at h
  rcases h with rfl | rfl | rfl | rfl | rfl | rfl | rfl | rfl | rfl | rfl <;> rfl
theorem own_ge {w : World} {B e z n : Nat} {v : Value} {l : List Value} (h : w.ownsRow B e z v n l) : ∀ j, v.ownBlock = some j → B ≤ j := fun j hj => by
  rcases h.2 with ⟨rfl, _⟩ | ⟨g, cap, cur, rfl, hbg, _⟩
  · cases hj
  · injection hj with hj
    subst hj
    exact hbg
def prL (p : Pr) : List Value := [.int .i64 p.1, .int .i64 p.2]
def rowP (qs : List Pr) : List Value := qs.flatMap prL
theorem rowP_snoc (ys : List Pr) (y : Pr) : rowP (ys ++ [y]) = rowP ys ++ prL y := by unfold rowP; rw [List.flatMap_append]; simp
theorem infoPr : (Tryd.prog.info? 43).map (fun i => (i.zero, i.size, i.bytes)) = some (some (.agg #[.int .i64 0, .int .i64 0]), 2, 16) := by kernel_rfl
theorem one_pr (x : Pr) : ∀ u ∈ prL x, u.oneCell' = true := fun u h => by
  unfold prL at h
  simp at h
  rcases h with rfl | rfl <;> rfl
def amB (N : Nat) (p : Pr) : Bool := amongM p.1 p.2 N
theorem filter_snoc {ps : List Pr} {j N : Nat} {p : Pr} {b : Bool} (h : ps.getD j (0, 0) = p) (hj : j < ps.length) (hb : amB N p = b) : (ps.take (j + 1)).filter (amB N) = (ps.take j).filter (amB N) ++ (if b then [p] else []) := by
  rw [List.getD_eq_getElem?_getD, List.getElem?_eq_getElem hj] at h
  simp only [Option.getD_some] at h
  rw [List.take_succ_eq_append_getElem hj, h, List.filter_append, List.filter_cons, hb]
  cases b <;> rfl
/-- Where the second loop stands. -/
def Hd2 (w : World) (v : Value) (ys : List ER) (N : Nat) (ps : List Pr) (X Y : Value) (s37 : Value) (wr : World) : Prop := ∃ (j : Nat) (v2 : Value) (qs : List Pr), s37 = .int .i64 j ∧ j ≤ ps.length ∧ Bx wr w.heap.size X Y ∧ Bx wr (w.heap.size + 1) (.slice none 0 0) (.slice none 0 0) ∧ Bx wr (w.heap.size + 2) v v2 ∧ wr.ownsRow (w.heap.size + 3) 42 10 v ys.length (rowE ys) ∧ (∀ y ∈ ys, OwnE (w.heap.size + 3) wr y) ∧ wr.ownsRow (w.heap.size + 3) 43 2 v2 qs.length (rowP qs) ∧ qs = (ps.take j).filter (amB N) ∧ qs.length ≤ j ∧ Below w.heap.size w wr
/-- What Head returns. -/
def RetHd (l : List Ev) (qs : List Pr) (w : World) (e : Ending) (w' : World) : Prop := ∃ (V : Option Addr) (c : Nat) (ys : List ER) (V2 : Option Addr) (c2 : Nat), e = .returned (.agg #[.slice V ys.length c, .slice V2 qs.length c2]) ∧ w'.ownsRow w.heap.size 42 10 (.slice V ys.length c) ys.length (rowE ys) ∧ (∀ y ∈ ys, OwnE w.heap.size w' y) ∧ w'.ownsRow w.heap.size 43 2 (.slice V2 qs.length c2) qs.length (rowP qs) ∧ ys.map (·.e) = l ∧ Plus w w'
/-- Where the first loop stands. -/
def Hd1 (w : World) (l : List Ev) (X Y : Value) (s22 : Value) (wr : World) : Prop := ∃ (k : Nat) (v : Value) (ys : List ER), s22 = .int .i64 k ∧ k ≤ l.length ∧ Bx wr w.heap.size X Y ∧ Bx wr (w.heap.size + 1) (.slice none 0 0) (.slice none 0 0) ∧ Bx wr (w.heap.size + 2) v (.slice none 0 0) ∧ wr.ownsRow (w.heap.size + 3) 42 10 v ys.length (rowE ys) ∧ (∀ y ∈ ys, OwnE (w.heap.size + 3) wr y) ∧ ys.map (·.e) = l.take k ∧ ys.length = k ∧ Below w.heap.size w wr
theorem int_eq {k : IntKind} {a b : Int} (h : a = b) : Value.int k a = .int k b := by rw [h]
/-- A copy of an event, its cells written out. -/
def RetCv (g k : Int) (s t : Bool) (b a z : Int) (xs us fs : List Int) (w : World) (e : Ending) (w' : World) : Prop := ∃ (R : Option Addr) (cr : Nat) (W : Option Addr) (cw : Nat) (F : Option Addr) (cf : Nat), e = .returned (.agg #[.int .i64 g, .int .i64 k, .bool s, .bool t, .int .i64 b, .int .i64 a, .int .i64 z, .slice R xs.length cr, .slice W us.length cw, .slice F fs.length cf]) ∧ OwnE w.heap.size w' ⟨⟨g, k, s, t, b, a, z, xs, us, fs⟩, R, cr, W, cw, F, cf⟩ ∧ Plus w w'
theorem cloneE_v {g k b a z : Int} {s t : Bool} {R W F : Option Addr} {nr cr nw cw nf cf : Nat} {xs us fs : List Int} (w : World) (h : EM w R W F xs us fs nr cr nw cw nf cf) (h1 : nr ≤ 1048576) (h2 : nw ≤ 1048576) (h3 : nf ≤ 1048576) : Calls Tryd.prog 70 #[Value.agg #[.int .i64 g, .int .i64 k, .bool s, .bool t, .int .i64 b, .int .i64 a, .int .i64 z, .slice R nr cr, .slice W nw cw, .slice F nf cf]] w (RetCv g k s t b a z xs us fs w) := cloneE_c w h h1 h2 h3
set_option maxRecDepth 100000 in
set_option maxHeartbeats 4000000 in
theorem head_x {A B : Option Addr} {rs : List ER} {ps : List Pr} {c d N : Nat} {n : Int} (w : World) (he : Es w A rs rs.length c) (hp : Pa w B ps ps.length d) (hsm : ∀ x ∈ rs, x.e.r.length ≤ 1048576 ∧ x.e.w.length ≤ 1048576 ∧ x.e.f.length ≤ 1048576) (hl : rs.length ≤ 100000) (hl2 : ps.length ≤ 100000) (hN : Hid ((n ≤ 0 ∧ N = 0) ∨ (0 < n ∧ n ≤ rs.length ∧ n = (N : Int)) ∨ ((rs.length : Int) < n ∧ N = rs.length))) : Calls Tryd.prog 38 #[.agg #[.slice A rs.length c, .slice B ps.length d], .int .i64 n] w (RetHd ((rs.map (·.e)).take N) (ps.filter (amB N)) w) := by
  have hcap := he.cap
  have hmax := he.max
  have hcap2 := hp.cap
  have hmax2 := hp.max
  have hNl : N ≤ rs.length := by rcases hN.out with h | h | h <;> omega
  have H := Lib.hid he
  have HP := Lib.hid hp
  have HSM := Lib.hid hsm
  obtain ⟨i0, hi, hz0, hz1, hz2⟩ := info_parts infoEv
  obtain ⟨j0, hj, hj0, hj1, hj2⟩ := info_parts infoPr
  clear he hp hsm
  go_enter Tryd.func38, Tryd.ntmps38
  go_upto_region 1 with fail
  go_cut [1] (fun s1 wx => s1 = .int .i64 N ∧ wx = (w.alloc (.cells #[.slice A rs.length c, .slice B ps.length d] 25)).alloc (.cells #[.slice none 0 0, .slice none 0 0] 25))
  case first =>
    rcases hN.out with ⟨h1, rfl⟩ | ⟨h1, h2, rfl⟩ | ⟨h1, rfl⟩
    all_goals go_wp2_with fail
    all_goals go_meet
    all_goals exact ⟨int_eq (by omega), rfl⟩
  case rest =>
    obtain ⟨rfl, rfl⟩ := hcut
    go_wp2_with fail
    go_loopw [22] (fun s22 wr => Hd1 w ((rs.map (·.e)).take N) (.slice A rs.length c) (.slice B ps.length d) s22 wr) (fun s22 _ => ((N : Int) - intOf s22).toNat)
    case atStart => exact ⟨0, .slice none 0 0, [], rfl, Nat.zero_le _, ((bx_new _ _ _).plus (Plus.alloc (Plus.refl _) _)).plus (Plus.alloc (Plus.refl _) _), (bx_new' _ _ _ (by simp)).plus (Plus.alloc (Plus.refl _) _), bx_new' _ _ _ (by simp), World.ownsRow_nil _ _ _ _, fun _ h => absurd h (by simp), rfl, rfl, (((Below.refl _ _).alloc (Nat.le_refl _) _).alloc (by simp) _).alloc (by simp; omega) _⟩
    case round =>
      obtain ⟨k, v, ys, rfl, hk, hB1, hB2, hB3, hO, hys, hyl, hyk, hB⟩ := hrel
      obtain ⟨x0, rfl⟩ := Plus.of_below hB
      have hkl : k ≤ N := by rw [List.length_take, List.length_map] at hk; omega
      have h1 := hB1.c0
      have h2 := hB3.c0
      have h3 := hB3.c1
      haveI : Old (w.heap.size + 2) (plus w x0) := ⟨hB3.lt⟩
      haveI : Old (w.heap.size + 1) (plus w x0) := ⟨hB2.lt⟩
      haveI : Old w.heap.size (plus w x0) := ⟨hB1.lt⟩
      have hfz := hB3.frozen 0
      have hsz : w.heap.size + 3 ≤ w.heap.size + x0.blocks.length := by have q := hB3.lt; rw [size_plus] at q; omega
      have HB1 := Lib.hid hB1
      have HB2 := Lib.hid hB2
      have HB3 := Lib.hid hB3
      have HO := Lib.hid hO
      have HYS := Lib.hid hys
      have HYL := Lib.hid hyl
      have HYK := Lib.hid hyk
      have HB := Lib.hid hB
      clear hB1 hB2 hB3 hO hys hyl hyk hB
      by_cases hlt : k < N
      · obtain ⟨g, o, x, rfl, hx, hxm, hM, q0, q1, q2, q3, q4, q5, q6, q7, q8, q9⟩ := (H.out.plus (Plus.is x0)).at_ (show k < rs.length by omega)
        have hu := getD_map (show k < rs.length by omega) hx
        obtain ⟨hs1, hs2, hs3⟩ := HSM.out x hxm
        obtain ⟨⟨g1, k1, s1, t1, b1, a1, z1, xs1, us1, fs1⟩, R1, cr1, W1, cw1, F1, cf1⟩ := x
        simp only at q0 q1 q2 q3 q4 q5 q6 q7 q8 q9 hM hu hs1 hs2 hs3
        have HM := Lib.hid (show EM (plus w x0) R1 W1 F1 xs1 us1 fs1 xs1.length cr1 us1.length cw1 fs1.length cf1 from hM)
        have hadd := add_addr g o (k * 10)
        have HU := Lib.hid hu
        have hyl2 : ys.length ≤ 100000 := by rw [HYK.out]; omega
        clear hM hu hxm hx
        go_wp2_with fail
        go_region_law (first | (rw [if_pos (by simp [Region.wanted])]; unfold Oper.wp; go_simp; (with_reducible refine (cloneE_v _ (HM.out.plus (by repeat' (first | exact Plus.refl _ | refine Plus.alloc ?_ _ | refine Plus.plus ?_ _ | refine Plus.drew ?_ | refine Plus.drewN ?_ _))) (by omega) (by omega) (by omega)).mono ?_); rintro e xw ⟨D1, D1c, D2, D2c, D3, D3c, rfl, hC, ⟨x1, rfl⟩⟩; have HC := Lib.hid hC; clear hC; dsimp only) | (refine step_append_own rfl (.tmp 27) (.tmp 30) 22 rfl (w.heap.size + 3) 42 i0 (.agg #[.int .i64 0, .int .i64 0, .bool false, .bool false, .int .i64 0, .int .i64 0, .int .i64 0, .slice none 0 0, .slice none 0 0, .slice none 0 0]) 10 120 Tryd.underlying22 hi hz0 hz1 hz2 rfl (by decide) v ys.length (rowE ys) (by simp [Act.eval]) (own_plus HO.out (by repeat' (first | exact Plus.refl _ | refine Plus.alloc ?_ _ | refine Plus.plus ?_ _ | refine Plus.drew ?_ | refine Plus.drewN ?_ _))) _ 1 1 (evL ⟨⟨g1, k1, s1, t1, b1, a1, z1, xs1, us1, fs1⟩, D1, D1c, D2, D2c, D3, D3c⟩) (by simp [Act.eval]; rfl) rfl (news_at' _ _ _ _ (by simp [go_sem])) (one_ev _) (by unfold maxLen; omega) (by omega) (by simp [go_sem]; omega) ?_; intro v1 w1 hown1 hgr1; obtain ⟨V1, cv1, rfl⟩ := own_form hown1; have HW2 := Lib.hid hown1; have HG2 := Lib.hid hgr1; clear hown1 hgr1; have hB4 := Bx.grown (HB3.out.plus (by repeat' (first | exact Plus.refl _ | refine Plus.alloc ?_ _ | refine Plus.plus ?_ _ | refine Plus.drew ?_ | refine Plus.drewN ?_ _))) HG2.out (own_ty (own_plus HO.out (by repeat' (first | exact Plus.refl _ | refine Plus.alloc ?_ _ | refine Plus.plus ?_ _ | refine Plus.drew ?_ | refine Plus.drewN ?_ _)))) (by decide); have hc4 : w1.cell? ⟨w.heap.size + 1 + 1, 0, none⟩ = some v := hB4.c0; have hf4 : w1.frozen? ⟨w.heap.size + 1 + 1, 0, none⟩ = false := hB4.frozen 0; have HB4 := Lib.hid hB4; clear hB4))
        all_goals
          go_wp2_with fail
          go_roundw
          case rel => exact ⟨k + 1, _, ys ++ [⟨⟨g1, k1, s1, t1, b1, a1, z1, xs1, us1, fs1⟩, D1, D1c, D2, D2c, D3, D3c⟩], int_eq (by omega), by rw [List.length_take, List.length_map]; omega, (Bx.grown (HB1.out.plus (by repeat' (first | exact Plus.refl _ | refine Plus.alloc ?_ _ | refine Plus.plus ?_ _ | refine Plus.drew ?_ | refine Plus.drewN ?_ _))) HG2.out (own_ty (own_plus HO.out (by repeat' (first | exact Plus.refl _ | refine Plus.alloc ?_ _ | refine Plus.plus ?_ _ | refine Plus.drew ?_ | refine Plus.drewN ?_ _)))) (by decide)).other (by omega) _, (Bx.grown (HB2.out.plus (by repeat' (first | exact Plus.refl _ | refine Plus.alloc ?_ _ | refine Plus.plus ?_ _ | refine Plus.drew ?_ | refine Plus.drewN ?_ _))) HG2.out (own_ty (own_plus HO.out (by repeat' (first | exact Plus.refl _ | refine Plus.alloc ?_ _ | refine Plus.plus ?_ _ | refine Plus.drew ?_ | refine Plus.drewN ?_ _)))) (by decide)).other (by omega) _, HB4.out.set0 _, by rw [rowE_snoc, List.length_append]; exact own_set HW2.out HB4.out (by decide), fun y hy => by
            rcases List.mem_append.1 hy with h | h
            · exact OwnE.set (OwnE.grown ((HYS.out y h).plus (by repeat' (first | exact Plus.refl _ | refine Plus.alloc ?_ _ | refine Plus.plus ?_ _ | refine Plus.drew ?_ | refine Plus.drewN ?_ _))) HG2.out (own_ty (own_plus HO.out (by repeat' (first | exact Plus.refl _ | refine Plus.alloc ?_ _ | refine Plus.plus ?_ _ | refine Plus.drew ?_ | refine Plus.drewN ?_ _)))) (by decide) (by decide)) HB4.out (by decide) (by decide)
            · obtain rfl := List.mem_singleton.1 h
              exact OwnE.set (OwnE.grown ((HC.out.base (by simp [go_sem]; omega)).plus (by repeat' (first | exact Plus.refl _ | refine Plus.alloc ?_ _ | refine Plus.plus ?_ _ | refine Plus.drew ?_ | refine Plus.drewN ?_ _))) HG2.out (own_ty (own_plus HO.out (by repeat' (first | exact Plus.refl _ | refine Plus.alloc ?_ _ | refine Plus.plus ?_ _ | refine Plus.drew ?_ | refine Plus.drewN ?_ _)))) (by decide) (by decide)) HB4.out (by decide) (by decide), by
            rw [List.map_append, HYL.out, List.take_take, Nat.min_eq_left (by omega), List.take_take, Nat.min_eq_left (by omega), take_snoc HU.out (by rw [List.length_map]; omega)]
            rfl, by rw [List.length_append, HYK.out]; rfl, ((Plus.below (w' := _) (by repeat' (first | exact Plus.refl _ | refine Plus.alloc ?_ _ | refine Plus.plus ?_ _ | refine Plus.drew ?_ | refine Plus.drewN ?_ _))).grown HG2.out (by simp [go_sem]; omega) (fun j hj => Nat.le_trans (by omega) (own_ge HO.out j hj))).setCell (by show w.heap.size ≤ w.heap.size + 1 + 1; omega) _⟩
          case measure => simp [intOf]; omega
      · obtain rfl : k = N := by omega
        rw [List.take_take, Nat.min_self] at HYL
        have h4 := HB1.out.c1
        go_wp2_with fail
        go_loopw [37] (fun s37 wr => Hd2 w v ys k ps (.slice A rs.length c) (.slice B ps.length d) s37 wr) (fun s37 _ => ((ps.length : Int) - intOf s37).toNat)
        case atStart => exact ⟨0, .slice none 0 0, [], rfl, Nat.zero_le _, HB1.out, HB2.out, HB3.out, HO.out, HYS.out, World.ownsRow_nil _ _ _ _, rfl, Nat.le_refl _, HB.out⟩
        case round =>
          obtain ⟨j, v2, qs, rfl, hk2, hB1, hB2, hB3, hO, hys, hQ, hqs, hql, hB⟩ := hrel
          clear HB1 HB2 HB3 HO HYS HB h1 h2 h3 h4 hfz hsz
          obtain ⟨x2, rfl⟩ := Plus.of_below hB
          have h1 := hB1.c0
          have h4 := hB1.c1
          have h2 := hB3.c0
          have h3 := hB3.c1
          haveI : Old (w.heap.size + 2) (plus w x2) := ⟨hB3.lt⟩
          haveI : Old (w.heap.size + 1) (plus w x2) := ⟨hB2.lt⟩
          haveI : Old w.heap.size (plus w x2) := ⟨hB1.lt⟩
          have hfz := hB3.frozen 1
          have hsz : w.heap.size + 3 ≤ w.heap.size + x2.blocks.length := by have q := hB3.lt; rw [size_plus] at q; omega
          have HB1 := Lib.hid hB1
          have HB2 := Lib.hid hB2
          have HB3 := Lib.hid hB3
          have HO := Lib.hid hO
          have HYS := Lib.hid hys
          have HB := Lib.hid hB
          have HQ := Lib.hid hQ
          have HQS := Lib.hid hqs
          clear hB1 hB2 hB3 hO hys hB hQ hqs
          by_cases hjl : j < ps.length
          · obtain ⟨g, o, rfl, hg, hat⟩ := (HP.out.rd.plus (Plus.is x2)) (by omega)
            obtain ⟨hc0, hc1⟩ := hat j hjl
            have hadd := add_addr g o (j * 2)
            have hadd3 := add_addr g (o + j * 2) 1
            obtain ⟨u, hu⟩ : ∃ u, ps.getD j (0, 0) = u := ⟨_, rfl⟩
            rw [hu] at hc0 hc1
            obtain ⟨p, q⟩ := u
            simp only at hc0 hc1
            have HV := Lib.hid hu
            clear hu hat
            obtain ⟨b, hb⟩ : ∃ b, amongM p q (k : Nat) = b := ⟨_, rfl⟩
            have HN2 := Lib.hid hb
            have HF := Lib.hid (filter_snoc (b := b) HV.out hjl hb)
            clear hb
            cases b
            · go_wp2_with (go_at_call 57; (with_reducible refine (among_n _ HN2).mono ?_); rintro e xw ⟨rfl, ⟨x1, rfl⟩⟩)
              go_roundw
              case rel => exact ⟨j + 1, v2, qs, int_eq (by omega), hjl, HB1.out.plus (by repeat' (first | exact Plus.refl _ | refine Plus.alloc ?_ _ | refine Plus.plus ?_ _ | refine Plus.drew ?_ | refine Plus.drewN ?_ _)), HB2.out.plus (by repeat' (first | exact Plus.refl _ | refine Plus.alloc ?_ _ | refine Plus.plus ?_ _ | refine Plus.drew ?_ | refine Plus.drewN ?_ _)), HB3.out.plus (by repeat' (first | exact Plus.refl _ | refine Plus.alloc ?_ _ | refine Plus.plus ?_ _ | refine Plus.drew ?_ | refine Plus.drewN ?_ _)), own_plus HO.out (by repeat' (first | exact Plus.refl _ | refine Plus.alloc ?_ _ | refine Plus.plus ?_ _ | refine Plus.drew ?_ | refine Plus.drewN ?_ _)), fun y hy => (HYS.out y hy).plus (by repeat' (first | exact Plus.refl _ | refine Plus.alloc ?_ _ | refine Plus.plus ?_ _ | refine Plus.drew ?_ | refine Plus.drewN ?_ _)), own_plus HQ.out (by repeat' (first | exact Plus.refl _ | refine Plus.alloc ?_ _ | refine Plus.plus ?_ _ | refine Plus.drew ?_ | refine Plus.drewN ?_ _)), by rw [HF.out, HQS.out]; simp, by omega, HB.out.trans ((Plus.below (by repeat' (first | exact Plus.refl _ | refine Plus.alloc ?_ _ | refine Plus.plus ?_ _ | refine Plus.drew ?_ | refine Plus.drewN ?_ _))).mono (by simp [go_sem]))⟩
              case measure => simp [intOf]; omega
            · go_wp2_with (first | (go_at_call 57; (with_reducible refine (among_n _ HN2).mono ?_); rintro e xw ⟨rfl, ⟨x1, rfl⟩⟩) | (at_builtin; refine wpList_append_own _ rfl _ _ 23 rfl (w.heap.size + 3) 43 j0 (.agg #[.int .i64 0, .int .i64 0]) 2 16 Tryd.underlying23 hj hj0 hj1 hj2 rfl (by decide) _ _ _ rfl (own_plus HQ.out (by repeat' (first | exact Plus.refl _ | refine Plus.alloc ?_ _ | refine Plus.plus ?_ _ | refine Plus.drew ?_ | refine Plus.drewN ?_ _))) _ 1 1 (prL (p, q)) rfl rfl (news_at' _ _ _ _ (by simp [go_sem])) (one_pr _) (by unfold maxLen; omega) (by omega) (by simp [go_sem]; omega) ?_; intro v3 w1 hown1 hgr1 _; obtain ⟨V3, cv3, rfl⟩ := own_form hown1; have HW2 := Lib.hid hown1; have HG2 := Lib.hid hgr1; clear hown1 hgr1; have hB4 := Bx.grown (HB3.out.plus (by repeat' (first | exact Plus.refl _ | refine Plus.alloc ?_ _ | refine Plus.plus ?_ _ | refine Plus.drew ?_ | refine Plus.drewN ?_ _))) HG2.out (own_ty (own_plus HQ.out (by repeat' (first | exact Plus.refl _ | refine Plus.alloc ?_ _ | refine Plus.plus ?_ _ | refine Plus.drew ?_ | refine Plus.drewN ?_ _)))) (by decide); have hc4 : w1.cell? ⟨w.heap.size + 1 + 1, 1, none⟩ = some v2 := hB4.c1; have hf4 : w1.frozen? ⟨w.heap.size + 1 + 1, 1, none⟩ = false := hB4.frozen 1; have HB4 := Lib.hid hB4; clear hB4))
              go_roundw
              case rel => exact ⟨j + 1, _, qs ++ [(p, q)], int_eq (by omega), hjl, (Bx.grown (HB1.out.plus (by repeat' (first | exact Plus.refl _ | refine Plus.alloc ?_ _ | refine Plus.plus ?_ _ | refine Plus.drew ?_ | refine Plus.drewN ?_ _))) HG2.out (own_ty (own_plus HQ.out (by repeat' (first | exact Plus.refl _ | refine Plus.alloc ?_ _ | refine Plus.plus ?_ _ | refine Plus.drew ?_ | refine Plus.drewN ?_ _)))) (by decide)).other (by omega) _, (Bx.grown (HB2.out.plus (by repeat' (first | exact Plus.refl _ | refine Plus.alloc ?_ _ | refine Plus.plus ?_ _ | refine Plus.drew ?_ | refine Plus.drewN ?_ _))) HG2.out (own_ty (own_plus HQ.out (by repeat' (first | exact Plus.refl _ | refine Plus.alloc ?_ _ | refine Plus.plus ?_ _ | refine Plus.drew ?_ | refine Plus.drewN ?_ _)))) (by decide)).other (by omega) _, HB4.out.set1 _, own_set (own_grown (own_plus HO.out (by repeat' (first | exact Plus.refl _ | refine Plus.alloc ?_ _ | refine Plus.plus ?_ _ | refine Plus.drew ?_ | refine Plus.drewN ?_ _))) HG2.out (own_ty (own_plus HQ.out (by repeat' (first | exact Plus.refl _ | refine Plus.alloc ?_ _ | refine Plus.plus ?_ _ | refine Plus.drew ?_ | refine Plus.drewN ?_ _)))) (by decide)) HB4.out (by decide), fun y hy => OwnE.set (OwnE.grown ((HYS.out y hy).plus (by repeat' (first | exact Plus.refl _ | refine Plus.alloc ?_ _ | refine Plus.plus ?_ _ | refine Plus.drew ?_ | refine Plus.drewN ?_ _))) HG2.out (own_ty (own_plus HQ.out (by repeat' (first | exact Plus.refl _ | refine Plus.alloc ?_ _ | refine Plus.plus ?_ _ | refine Plus.drew ?_ | refine Plus.drewN ?_ _)))) (by decide) (by decide)) HB4.out (by decide) (by decide), by rw [rowP_snoc, List.length_append]; exact own_set HW2.out HB4.out (by decide), by rw [HF.out, HQS.out]; rfl, by rw [List.length_append]; show qs.length + 1 ≤ j + 1; omega, ((Plus.below (w' := _) (by repeat' (first | exact Plus.refl _ | refine Plus.alloc ?_ _ | refine Plus.plus ?_ _ | refine Plus.drew ?_ | refine Plus.drewN ?_ _))).grown HG2.out (by simp [go_sem]; omega) (fun j hj => Nat.le_trans (by omega) (own_ge HQ.out j hj))).setCell (by show w.heap.size ≤ w.heap.size + 1 + 1; omega) _⟩
              case measure => simp [intOf]; omega
          · obtain rfl : j = ps.length := by omega
            obtain ⟨V, cv, rfl⟩ := own_form HO.out
            obtain ⟨V2, cv2, rfl⟩ := own_form HQ.out
            have hy0 := HB2.out.c0
            have hy1 := HB2.out.c1
            have hf0 := HB2.out.frozen 0
            have hf1 := HB2.out.frozen 1
            have hqe := HQS.out
            rw [List.take_length] at hqe
            subst hqe
            clear HQS
            have hr := (HB2.out.set0 (.slice V ys.length cv)).set1 (.slice V2 (ps.filter (amB k)).length cv2)
            have hr0 := hr.c0
            have hr1 := hr.c1
            clear hr
            go_wp2_with fail
            exact bodyPost_ret (v := .agg #[.slice V ys.length cv, .slice V2 (ps.filter (amB k)).length cv2]) (by simp [results, Tryd.results38, go_sem, hr0, hr1]) rfl ⟨V, cv, ys, V2, cv2, rfl, own_base (own_set (own_set HO.out HB2.out (by decide)) (HB2.out.set0 _) (by decide)) (by omega), fun y hy => OwnE.base (OwnE.set (OwnE.set (HYS.out y hy) HB2.out (by decide) (by decide)) (HB2.out.set0 _) (by decide) (by decide)) (by omega), own_base (own_set (own_set HQ.out HB2.out (by decide)) (HB2.out.set0 _) (by decide)) (by omega), HYL.out, Plus.of_below ((HB.out.setCell (by show w.heap.size ≤ w.heap.size + 1; omega) _).setCell (by show w.heap.size ≤ w.heap.size + 1; omega) _)⟩
end Go.Proofs.YtmfdlcicbiincaaDoor
