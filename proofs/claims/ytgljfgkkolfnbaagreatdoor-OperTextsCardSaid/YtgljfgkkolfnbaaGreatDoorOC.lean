/- slices.Grow and slices.Concat at texts. oper: joined, plus. -/
import Derived.Shelf.Spec.SlicesGrow
import Derived.Deep.LoopGhost
import Derived.Laws.AppendOwn
import Derived.Test.YtgljfgkkolfnbaaGreatDoorUC
import Derived.Test.YtgljfgkkolfnbaaGreatDoorOA
namespace Go.Proofs
open Go.Shelf
def Tryz.growU16_ren : Go.Shelf.Ren := ⟨fun | 4 => 202 | n => n, fun | 22 => 27 | 25 => 83 | 3 => 3 | 4 => 4 | 9 => 9 | 20 => 20 | 0 => 0 | n => n, fun | n => n⟩
theorem Tryz.growU16 : Go.Proofs.Lays8.n4 Tryz.prog Tryz.growU16_ren := {
  mixed := by kernel_rfl
  f4 := ⟨Tryz.f202.name, by decide, Tryz.func202.trans (congrArg some (by kernel_rfl))⟩
  t0 := Tryz.underlying0
  a0 := Tryz.isAgg0
  z0 := Tryz.sizeOf0
  v0 := Tryz.zeroValue0
  t3 := Tryz.underlying3
  a3 := Tryz.isAgg3
  z3 := Tryz.sizeOf3
  v3 := Tryz.zeroValue3
  t4 := Tryz.underlying4
  a4 := Tryz.isAgg4
  z4 := Tryz.sizeOf4
  v4 := Tryz.zeroValue4
  t9 := Tryz.underlying9
  a9 := Tryz.isAgg9
  z9 := Tryz.sizeOf9
  v9 := Tryz.zeroValue9
  t20 := Tryz.underlying20
  a20 := Tryz.isAgg20
  z20 := Tryz.sizeOf20
  v20 := Tryz.zeroValue20
  t22 := Tryz.underlying27
  a22 := Tryz.isAgg27
  z22 := Tryz.sizeOf27
  v22 := Tryz.zeroValue27 }
end Go.Proofs
namespace Go.Proofs.YtgljfgkkolfnbaaGreatDoor
open Go.RowKit

theorem grow_c (n : Nat) (hn : n ≤ 65536) (w : World) : Calls Tryz.prog 202 #[.slice none 0 0, .int .i64 n] w fun e w' => ∃ v, e = .returned v ∧ w'.ownsRow w.heap.size 83 1 v 0 [] ∧ Plus w w' := by
  obtain ⟨i0, hi, hz0, hz1, hz2⟩ := info_parts infoU16
  by_cases h0 : n = 0
  · subst h0
    refine (Any8.slices_Grow_room Tryz.growU16 none 0 0 0 w (by omega) (by omega) (by omega) (by omega)).mono ?_
    rintro e w' ⟨rfl, rfl⟩
    exact ⟨_, rfl, World.ownsRow_nil _ _ _ _, Plus.refl _⟩
  · refine (Any8.slices_Grow_grow Tryz.growU16 i0 (.int .u16 0) hi hz0 (by omega) none 0 0 n [] w (by omega) (by omega) (by rw [hz2]; omega) (by omega) (by simp) (fun _ => rfl) (fun a h => by cases h)).mono ?_
    rintro e w' ⟨rfl, rfl⟩
    refine ⟨_, rfl, ?_, ?_⟩
    · have hm : grownCap w (0 + n) 0 83 ≤ maxLen := grownCap_le_maxLen w _ _ _ (by unfold maxLen; omega)
      exact World.ownsRow_made w.drew _ _ (Nat.le_refl _) hm (by have hg := grownCap_ge w (0 + n) 0 83; simp only [Array.size_append, size_zeroCells]; show 0 + (0 + n - 0) * 1 + (grownCap w (0 + n) 0 83 - (0 + n)) * 1 = grownCap w (0 + n) 0 83 * 1; omega)
    · exact Plus.alloc (Plus.drew (Plus.refl _)) _
theorem rd_news {k : IntKind} {w : World} {ad : Addr} {xs : List Nat} (h : Rd k w (some ad) xs) : ∀ j v, (vals k xs)[j]? = some v → w.cell? (ad.add j) = some v := fun j v hj => by
  unfold vals at hj
  rw [List.getElem?_map] at hj
  have hlt : j < xs.length := by
    apply Nat.lt_of_not_le
    intro q
    rw [List.getElem?_eq_none q] at hj
    cases hj
  obtain ⟨g, o, e, hg, hat⟩ := h (by omega)
  obtain rfl := Option.some.inj e
  rw [List.getElem?_eq_getElem hlt] at hj
  rw [add_addr, hat j hlt, ← hj, List.getD_eq_getElem?_getD, List.getElem?_eq_getElem hlt]
  rfl
theorem vals_one (k : IntKind) (xs : List Nat) : ∀ u ∈ vals k xs, u.oneCell' = true := fun u h => by
  obtain ⟨x, _, rfl⟩ := List.mem_map.1 h
  rfl


/-- An append of what lies in memory, nil too, to a row of the call's own. -/
theorem run_append_rd {w : World} (base : Nat) (t ty e : TypeId) (i : TypeInfo) (z : Value) (bytes : Nat) (k : IntKind) (ht : Tryz.prog.underlying t = some (.slice e)) (hi : Tryz.prog.info? e = some i) (hz : i.zero = some z) (hsize : i.size = 1) (hby : i.bytes = bytes) (hzs : z.cells.size = 1)
    (v : Value) (xs ys : List Nat) (hown : w.ownsRow base e 1 v xs.length (vals k xs)) (A : Option Addr) (m c : Nat) (hm : m = ys.length) (hr : Rd k w A ys) (h63 : xs.length + ys.length ≤ maxLen) (hbytes : (xs.length + ys.length) * bytes ≤ 140737488355328) (hbase : base ≤ w.heap.size) :
    ∃ v' w', (Builtin.append_ #[t, t] ty #[v, .slice A m c]).run Tryz.prog w = .ok v' w' ∧ w'.ownsRow base e 1 v' (xs.length + ys.length) (vals k xs ++ vals k ys) ∧ w.grownBy w' v.ownBlock := by
  subst hm
  cases A with
  | some ad =>
    obtain ⟨v', w', q1, q2, q3, _⟩ := run_append_own (P := Tryz.prog) w base t ty e i z 1 bytes ht hi hz hsize hby hzs (by decide) v xs.length (vals k xs) hown ad ys.length c (vals k ys) (by rw [vals_len, Nat.mul_one]) (rd_news hr) (vals_one k ys) h63 hbytes hbase
    exact ⟨v', w', q1, q2, q3⟩
  | none =>
    have h0 : ys = [] := by
      rcases ys with _ | ⟨y, ys⟩
      · rfl
      · obtain ⟨g, o, e, _⟩ := hr (by simp)
        cases e
    subst h0
    refine ⟨v, w, ?_, by simpa [vals] using hown, World.grownBy.refl w _⟩
    rcases hown.2 with ⟨rfl, _⟩ | ⟨g, cap, cur, rfl, _, _, hnc, _⟩
    · simp [Builtin.append_, run_underlying ht, sizeOf, typeInfo, hi, Builtin.lenOf, Builtin.firstCells]
    · simp [Builtin.append_, run_underlying ht, sizeOf, typeInfo, hi, Builtin.lenOf, Builtin.firstCells, hnc, storeCells]
theorem wpList_append_rd {ops : Array Oper} {rest : List Oper} {o : Oper} {a : Act} {w : World} {Q : Exit → Act → World → Prop} (hgd : Region.wanted o (yielded ops a.tmps) = true) (s x : Operand) (t : TypeId)
    (ho : o.op = .call { callee := .builtin .append, args := #[s, x], argTypes := #[t, t] }) (base : Nat) (e : TypeId) (i : TypeInfo) (z : Value) (bytes : Nat) (k : IntKind) (ht : Tryz.prog.underlying t = some (.slice e)) (hi : Tryz.prog.info? e = some i) (hz : i.zero = some z) (hsize : i.size = 1) (hby : i.bytes = bytes) (hzs : z.cells.size = 1)
    (v : Value) (xs ys : List Nat) (hs : a.eval s = v) (hown : w.ownsRow base e 1 v xs.length (vals k xs)) (A : Option Addr) (m c : Nat) (hx : a.eval x = .slice A m c) (hm : m = ys.length) (hr : Rd k w A ys) (h63 : xs.length + ys.length ≤ maxLen) (hbytes : (xs.length + ys.length) * bytes ≤ 140737488355328) (hbase : base ≤ w.heap.size)
    (h : ∀ v' w', w'.ownsRow base e 1 v' (xs.length + ys.length) (vals k xs ++ vals k ys) → w.grownBy w' v.ownBlock → wpList Tryz.prog ops Q rest (a.put o.dst v') w') : wpList Tryz.prog ops Q (o :: rest) a w :=
  wpList_step fun K hK => by
    rw [if_pos hgd]
    obtain ⟨v', w', hrun, h2, h3⟩ := run_append_rd base t o.type e i z bytes k ht hi hz hsize hby hzs v xs ys hown A m c hm hr h63 hbytes hbase
    unfold Oper.wp execOp
    simp only [ho, resolve, invoke, builtin, Sem.run_bind, Sem.run_pure, Result.andThen_ok, List.map_toArray, List.map_cons, List.map_nil, hs, hx, hrun]
    exact hK _ _ (h v' w' h2 h3)
theorem below_rd {W W2 w1 : World} {t n : Nat} {v : Value} {l : List Value} {z : Nat} (h0 : W2.ownsRow W.heap.size t z v n l) (hp : Plus W W2) (hg : W2.grownBy w1 v.ownBlock) : Plus W w1 := by
  refine Plus.of_below (hp.below.grown hg hp.below.size (fun j hj => ?_))
  rcases h0.2 with ⟨rfl, _⟩ | ⟨g, cap, cur, rfl, hbg, _⟩
  · cases hj
  · injection hj with hj
    subst hj
    exact hbg
def CatA (m1 m2 : Nat) (w : World) (s3 s11 : Value) (wr : World) : Prop := w = wr ∧ ((s11 = .int .i64 0 ∧ s3 = .int .i64 0) ∨ (s11 = .int .i64 1 ∧ s3 = .int .i64 m1) ∨ (s11 = .int .i64 2 ∧ s3 = .int .i64 ((m1 : Int) + m2)))
def CatB (xs ys : List Nat) (w : World) (s6 s27 : Value) (wr : World) : Prop := Plus w wr ∧
  ((s27 = .int .i64 0 ∧ wr.ownsRow w.heap.size 83 1 s6 0 []) ∨ (s27 = .int .i64 1 ∧ wr.ownsRow w.heap.size 83 1 s6 xs.length (vals .u16 xs)) ∨ (s27 = .int .i64 2 ∧ wr.ownsRow w.heap.size 83 1 s6 (xs ++ ys).length (vals .u16 (xs ++ ys))))
theorem grow_v {z : Int} (n : Nat) (hz : z = n) (hn : n ≤ 65536) (w : World) : Calls Tryz.prog 202 #[.slice none 0 0, .int .i64 z] w fun e w' => ∃ v, e = .returned v ∧ w'.ownsRow w.heap.size 83 1 v 0 [] ∧ Plus w w' := by
  subst hz
  exact grow_c n hn w
set_option maxRecDepth 100000 in
set_option maxHeartbeats 8000000 in
theorem concat_c (g : Nat) (D1 D2 : Option Addr) (xs ys : List Nat) (m1 k1 m2 k2 : Nat) (w : World) (h1 : Hid (Ar .u16 65536 w D1 xs m1 k1)) (h2 : Hid (Ar .u16 65536 w D2 ys m2 k2)) (l1 : m1 ≤ 4096) (l2 : m2 ≤ 4096)
    (c0 : w.cell? ⟨g, 0, none⟩ = some (.slice D1 m1 k1)) (c1 : w.cell? ⟨g, 1, none⟩ = some (.slice D2 m2 k2)) :
    Calls Tryz.prog 172 #[.slice (some ⟨g, 0, none⟩) 2 2] w fun e w' => ∃ v, e = .returned v ∧ w'.ownsRow w.heap.size 83 1 v (xs ++ ys).length (vals .u16 (xs ++ ys)) ∧ Plus w w' := by
  obtain ⟨i0, hi, hz0, hz1, hz2⟩ := info_parts infoU16
  have w1 : ¬ ((m1 : Int) < 0) := by omega
  have w2 : ¬ ((m1 : Int) + m2 < 0) := by omega
  go_enter Tryz.func172, Tryz.ntmps172
  go_wp2
  go_loopw [3, 5, 11] (fun s3 _ s11 wr => CatA m1 m2 w s3 s11 wr) (fun _ _ s11 _ => ((2 : Int) - intOf s11).toNat)
  case atStart => exact ⟨rfl, .inl ⟨rfl, rfl⟩⟩
  case round =>
    obtain ⟨rfl, ⟨rfl, rfl⟩ | ⟨rfl, rfl⟩ | ⟨rfl, rfl⟩⟩ := hrel
    · go_wp2_with fail
      go_roundw
      case rel => exact ⟨rfl, .inr (.inl ⟨rfl, by simp⟩)⟩
      case measure => simp [intOf]
    · go_wp2_with fail
      go_roundw
      case rel => exact ⟨rfl, .inr (.inr ⟨rfl, rfl⟩)⟩
      case measure => simp [intOf]
    · go_wp2_with (go_at_call 202; refine (grow_v (m1 + m2) (by omega) (by omega) _).mono ?_; rintro e w1 ⟨v0, rfl, hown, ⟨x0, rfl⟩⟩; have HW0 := Lib.hid hown; clear hown)
      go_loopw [6, 8, 27] (fun s6 _ s27 wr => CatB xs ys w s6 s27 wr) (fun _ _ s27 _ => ((2 : Int) - intOf s27).toNat)
      case atStart => exact ⟨(by repeat' (first | exact Plus.refl _ | refine Plus.alloc ?_ _ | refine Plus.plus ?_ _ | refine Plus.drew ?_ | refine Plus.drewN ?_ _)), .inl ⟨rfl, HW0.out⟩⟩
      case round =>
        obtain ⟨hP, ⟨rfl, ho⟩ | ⟨rfl, ho⟩ | ⟨rfl, ho⟩⟩ := hrel
        · obtain ⟨y, rfl⟩ := hP
          have d0 := cell_plus c0 (Plus.is y)
          have d1 := cell_plus c1 (Plus.is y)
          have HO := Lib.hid ho
          clear ho
          go_wp2_with (at_builtin; refine wpList_append_rd (by rfl) _ _ 27 rfl w.heap.size 83 i0 (.int .u16 0) 2 .u16 Tryz.underlying27 hi hz0 hz1 hz2 (by decide) _ [] xs rfl HO.out _ _ _ rfl h1.out.len (h1.out.rd.plus (by repeat' (first | exact Plus.refl _ | refine Plus.alloc ?_ _ | refine Plus.plus ?_ _ | refine Plus.drew ?_ | refine Plus.drewN ?_ _))) (by (try rw [← h1.out.len]); (try rw [← h2.out.len]); (try simp only [List.length_nil]); unfold maxLen; omega) (by (try rw [← h1.out.len]); (try rw [← h2.out.len]); (try simp only [List.length_nil]); omega) (by simp [go_sem] <;> omega) ?_; intro vv w1 hown1 hgr1; have HP := Lib.hid (below_rd HO.out (show Plus w _ from (by repeat' (first | exact Plus.refl _ | refine Plus.alloc ?_ _ | refine Plus.plus ?_ _ | refine Plus.drew ?_ | refine Plus.drewN ?_ _))) hgr1); have HN := Lib.hid hown1; clear hown1 hgr1)
          go_roundw
          case rel => exact ⟨HP.out, .inr (.inl ⟨rfl, by simpa [vals] using HN.out⟩)⟩
          case measure => simp [intOf]
        · obtain ⟨y, rfl⟩ := hP
          have d0 := cell_plus c0 (Plus.is y)
          have d1 := cell_plus c1 (Plus.is y)
          have HO := Lib.hid ho
          clear ho
          go_wp2_with (at_builtin; refine wpList_append_rd (by rfl) _ _ 27 rfl w.heap.size 83 i0 (.int .u16 0) 2 .u16 Tryz.underlying27 hi hz0 hz1 hz2 (by decide) _ xs ys rfl HO.out _ _ _ rfl h2.out.len (h2.out.rd.plus (by repeat' (first | exact Plus.refl _ | refine Plus.alloc ?_ _ | refine Plus.plus ?_ _ | refine Plus.drew ?_ | refine Plus.drewN ?_ _))) (by (try rw [← h1.out.len]); (try rw [← h2.out.len]); (try simp only [List.length_nil]); unfold maxLen; omega) (by (try rw [← h1.out.len]); (try rw [← h2.out.len]); (try simp only [List.length_nil]); omega) (by simp [go_sem] <;> omega) ?_; intro vv w1 hown1 hgr1; have HP := Lib.hid (below_rd HO.out (show Plus w _ from (by repeat' (first | exact Plus.refl _ | refine Plus.alloc ?_ _ | refine Plus.plus ?_ _ | refine Plus.drew ?_ | refine Plus.drewN ?_ _))) hgr1); have HN := Lib.hid hown1; clear hown1 hgr1)
          go_roundw
          case rel => exact ⟨HP.out, .inr (.inr ⟨rfl, by rw [List.length_append, vals_app]; exact HN.out⟩)⟩
          case measure => simp [intOf]
        · have HO := Lib.hid ho
          have HP := Lib.hid hP
          clear ho hP
          go_wp2_with fail
          go_ret
          exact ⟨_, rfl, HO.out, HP.out⟩
end Go.Proofs.YtgljfgkkolfnbaaGreatDoor

namespace Go.Proofs.YtgljfgkkolfnbaaGreatDoor
open Go.RowKit

theorem concat_n {g : Nat} {D1 D2 : Option Addr} {xs ys : List Nat} {m1 k1 m2 k2 n : Nat} (hn : n = m1 + m2) (w : World) (h1 : Ar .u16 65536 w D1 xs m1 k1) (h2 : Ar .u16 65536 w D2 ys m2 k2) (l1 : m1 ≤ 4096) (l2 : m2 ≤ 4096)
    (c0 : w.cell? ⟨g, 0, none⟩ = some (.slice D1 m1 k1)) (c1 : w.cell? ⟨g, 1, none⟩ = some (.slice D2 m2 k2)) :
    Calls Tryz.prog 172 #[.slice (some ⟨g, 0, none⟩) 2 2] w fun e w' => ∃ (E : Option Addr) (c : Nat), e = .returned (.slice E n c) ∧ Ar .u16 65536 w' E (xs ++ ys) n c ∧ Plus w w' := by
  refine (concat_c g D1 D2 xs ys m1 k1 m2 k2 w (Lib.hid h1) (Lib.hid h2) l1 l2 c0 c1).mono ?_
  rintro e w' ⟨v, rfl, ho, hp⟩
  obtain ⟨E, c, rfl, q1, q2, q3⟩ := rd_of_own ho
  have e : (xs ++ ys).length = n := by rw [List.length_append, ← h1.len, ← h2.len, hn]
  rw [e] at q1 ⊢
  exact ⟨E, c, rfl, ⟨q3, e.symm, q1, q2, fun x hx => (List.mem_append.1 hx).elim (h1.bd x) (h2.bd x)⟩, hp⟩
theorem cell_pair {W : World} {a b : Value} {t g : Nat} (hg : g = W.heap.size) : (W.alloc (.cells #[a, b] t)).cell? ⟨g, 0, none⟩ = some a ∧ (W.alloc (.cells #[a, b] t)).cell? ⟨g, 1, none⟩ = some b := by
  have h := news_at' W [a, b] t g hg
  exact ⟨h 0 a rfl, h 1 b rfl⟩
set_option maxRecDepth 100000 in
set_option maxHeartbeats 4000000 in
theorem joined_s1 {ka pa qa : Int} {ga : Bool} {Aa Ca : Option Addr} {na ca ma da : Nat} {ra : Int} {kb pb qb : Int} {gb : Bool} {Ab Cb : Option Addr} {nb cb mb db : Nat} {rb : Int} {xa : JV} {tsa : List Nat} {sa : Int} {ma4 : Nat} (w : World) (hL : Hid (Lai w)) (hxa : Hid (NV w (Value.agg #[.int .i64 ka, .int .i64 pa, .int .i64 qa, .bool ga, .slice Aa na ca, .slice Ca ma da, .int .i64 ra]) xa)) (hta : Hid (txtJ xa = ⟨tsa, sa⟩ ∧ ma4 = tsa.length)) (hs : (sa != 0) = true) : Calls Tryz.prog 120 #[Value.agg #[.int .i64 ka, .int .i64 pa, .int .i64 qa, .bool ga, .slice Aa na ca, .slice Ca ma da, .int .i64 ra], Value.agg #[.int .i64 kb, .int .i64 pb, .int .i64 qb, .bool gb, .slice Ab nb cb, .slice Cb mb db, .int .i64 rb]] w (fun e w' => e = .returned (.tuple #[Value.agg #[.int .i64 0, .int .i64 0, .int .i64 0, .bool false, .slice none 0 0, .slice none 0 0, .int .i64 0], .int .i64 sa]) ∧ Plus w w') := by
  go_enter Tryz.func120, Tryz.ntmps120
  go_wp2_with (go_at_call_of 171 (Value.agg #[.int .i64 ka, .int .i64 pa, .int .i64 qa, .bool ga, .slice Aa na ca, .slice Ca ma da, .int .i64 ra]); (with_reducible refine (ctext_v hta _ (hL.out.plus (by repeat' (first | exact Plus.refl _ | refine Plus.alloc ?_ _ | refine Plus.plus ?_ _ | refine Plus.drew ?_ | refine Plus.drewN ?_ _))) (hxa.out.plus (by repeat' (first | exact Plus.refl _ | refine Plus.alloc ?_ _ | refine Plus.plus ?_ _ | refine Plus.drew ?_ | refine Plus.drewN ?_ _))) (hxa.out.vld.plus (by repeat' (first | exact Plus.refl _ | refine Plus.alloc ?_ _ | refine Plus.plus ?_ _ | refine Plus.drew ?_ | refine Plus.drewN ?_ _)))).mono ?_); rintro e w1 ⟨Da, kka, rfl, hDa, ⟨ya, rfl⟩⟩; have HDa := Lib.hid hDa; clear hDa)
  go_returns
  exact ⟨rfl, (by repeat' (first | exact Plus.refl _ | refine Plus.alloc ?_ _ | refine Plus.plus ?_ _ | refine Plus.drew ?_ | refine Plus.drewN ?_ _))⟩
set_option maxRecDepth 100000 in
set_option maxHeartbeats 4000000 in
theorem joined_s2 {ka pa qa : Int} {ga : Bool} {Aa Ca : Option Addr} {na ca ma da : Nat} {ra : Int} {kb pb qb : Int} {gb : Bool} {Ab Cb : Option Addr} {nb cb mb db : Nat} {rb : Int} {xa : JV} {tsa : List Nat} {ma4 : Nat} {xb : JV} {tsb : List Nat} {sb : Int} {mb4 : Nat} (w : World) (hL : Hid (Lai w)) (hxa : Hid (NV w (Value.agg #[.int .i64 ka, .int .i64 pa, .int .i64 qa, .bool ga, .slice Aa na ca, .slice Ca ma da, .int .i64 ra]) xa)) (hta : Hid (txtJ xa = ⟨tsa, 0⟩ ∧ ma4 = tsa.length)) (hxb : Hid (NV w (Value.agg #[.int .i64 kb, .int .i64 pb, .int .i64 qb, .bool gb, .slice Ab nb cb, .slice Cb mb db, .int .i64 rb]) xb)) (htb : Hid (txtJ xb = ⟨tsb, sb⟩ ∧ mb4 = tsb.length)) (hs : (sb != 0) = true) : Calls Tryz.prog 120 #[Value.agg #[.int .i64 ka, .int .i64 pa, .int .i64 qa, .bool ga, .slice Aa na ca, .slice Ca ma da, .int .i64 ra], Value.agg #[.int .i64 kb, .int .i64 pb, .int .i64 qb, .bool gb, .slice Ab nb cb, .slice Cb mb db, .int .i64 rb]] w (fun e w' => e = .returned (.tuple #[Value.agg #[.int .i64 0, .int .i64 0, .int .i64 0, .bool false, .slice none 0 0, .slice none 0 0, .int .i64 0], .int .i64 sb]) ∧ Plus w w') := by
  go_enter Tryz.func120, Tryz.ntmps120
  go_wp2_with (first | (go_at_call_of 171 (Value.agg #[.int .i64 ka, .int .i64 pa, .int .i64 qa, .bool ga, .slice Aa na ca, .slice Ca ma da, .int .i64 ra]); (with_reducible refine (ctext_v hta _ (hL.out.plus (by repeat' (first | exact Plus.refl _ | refine Plus.alloc ?_ _ | refine Plus.plus ?_ _ | refine Plus.drew ?_ | refine Plus.drewN ?_ _))) (hxa.out.plus (by repeat' (first | exact Plus.refl _ | refine Plus.alloc ?_ _ | refine Plus.plus ?_ _ | refine Plus.drew ?_ | refine Plus.drewN ?_ _))) (hxa.out.vld.plus (by repeat' (first | exact Plus.refl _ | refine Plus.alloc ?_ _ | refine Plus.plus ?_ _ | refine Plus.drew ?_ | refine Plus.drewN ?_ _)))).mono ?_); rintro e w1 ⟨Da, kka, rfl, hDa, ⟨ya, rfl⟩⟩; have HDa := Lib.hid hDa; clear hDa) | (go_at_call_of 171 (Value.agg #[.int .i64 kb, .int .i64 pb, .int .i64 qb, .bool gb, .slice Ab nb cb, .slice Cb mb db, .int .i64 rb]); (with_reducible refine (ctext_v htb _ (hL.out.plus (by repeat' (first | exact Plus.refl _ | refine Plus.alloc ?_ _ | refine Plus.plus ?_ _ | refine Plus.drew ?_ | refine Plus.drewN ?_ _))) (hxb.out.plus (by repeat' (first | exact Plus.refl _ | refine Plus.alloc ?_ _ | refine Plus.plus ?_ _ | refine Plus.drew ?_ | refine Plus.drewN ?_ _))) (hxb.out.vld.plus (by repeat' (first | exact Plus.refl _ | refine Plus.alloc ?_ _ | refine Plus.plus ?_ _ | refine Plus.drew ?_ | refine Plus.drewN ?_ _)))).mono ?_); rintro e w1 ⟨Db, kkb, rfl, hDb, ⟨yb, rfl⟩⟩; have HDb := Lib.hid hDb; clear hDb))
  go_returns
  exact ⟨rfl, (by repeat' (first | exact Plus.refl _ | refine Plus.alloc ?_ _ | refine Plus.plus ?_ _ | refine Plus.drew ?_ | refine Plus.drewN ?_ _))⟩
set_option maxRecDepth 100000 in
set_option maxHeartbeats 4000000 in
theorem joined_l {ka pa qa : Int} {ga : Bool} {Aa Ca : Option Addr} {na ca ma da : Nat} {ra : Int} {kb pb qb : Int} {gb : Bool} {Ab Cb : Option Addr} {nb cb mb db : Nat} {rb : Int} {xa : JV} {tsa : List Nat} {ma4 : Nat} {xb : JV} {tsb : List Nat} {mb4 : Nat} (w : World) (hL : Hid (Lai w)) (hxa : Hid (NV w (Value.agg #[.int .i64 ka, .int .i64 pa, .int .i64 qa, .bool ga, .slice Aa na ca, .slice Ca ma da, .int .i64 ra]) xa)) (hta : Hid (txtJ xa = ⟨tsa, 0⟩ ∧ ma4 = tsa.length)) (hxb : Hid (NV w (Value.agg #[.int .i64 kb, .int .i64 pb, .int .i64 qb, .bool gb, .slice Ab nb cb, .slice Cb mb db, .int .i64 rb]) xb)) (htb : Hid (txtJ xb = ⟨tsb, 0⟩ ∧ mb4 = tsb.length)) (l1 : ma4 ≤ 4096) (l2 : mb4 ≤ 4096) (hl : (4096 : Int) < (ma4 : Int) + mb4) : Calls Tryz.prog 120 #[Value.agg #[.int .i64 ka, .int .i64 pa, .int .i64 qa, .bool ga, .slice Aa na ca, .slice Ca ma da, .int .i64 ra], Value.agg #[.int .i64 kb, .int .i64 pb, .int .i64 qb, .bool gb, .slice Ab nb cb, .slice Cb mb db, .int .i64 rb]] w (fun e w' => e = .returned (.tuple #[Value.agg #[.int .i64 0, .int .i64 0, .int .i64 0, .bool false, .slice none 0 0, .slice none 0 0, .int .i64 0], .int .i64 3]) ∧ Plus w w') := by
  go_enter Tryz.func120, Tryz.ntmps120
  go_wp2_with (first | (go_at_call_of 171 (Value.agg #[.int .i64 ka, .int .i64 pa, .int .i64 qa, .bool ga, .slice Aa na ca, .slice Ca ma da, .int .i64 ra]); (with_reducible refine (ctext_v hta _ (hL.out.plus (by repeat' (first | exact Plus.refl _ | refine Plus.alloc ?_ _ | refine Plus.plus ?_ _ | refine Plus.drew ?_ | refine Plus.drewN ?_ _))) (hxa.out.plus (by repeat' (first | exact Plus.refl _ | refine Plus.alloc ?_ _ | refine Plus.plus ?_ _ | refine Plus.drew ?_ | refine Plus.drewN ?_ _))) (hxa.out.vld.plus (by repeat' (first | exact Plus.refl _ | refine Plus.alloc ?_ _ | refine Plus.plus ?_ _ | refine Plus.drew ?_ | refine Plus.drewN ?_ _)))).mono ?_); rintro e w1 ⟨Da, kka, rfl, hDa, ⟨ya, rfl⟩⟩; have HDa := Lib.hid hDa; clear hDa) | (go_at_call_of 171 (Value.agg #[.int .i64 kb, .int .i64 pb, .int .i64 qb, .bool gb, .slice Ab nb cb, .slice Cb mb db, .int .i64 rb]); (with_reducible refine (ctext_v htb _ (hL.out.plus (by repeat' (first | exact Plus.refl _ | refine Plus.alloc ?_ _ | refine Plus.plus ?_ _ | refine Plus.drew ?_ | refine Plus.drewN ?_ _))) (hxb.out.plus (by repeat' (first | exact Plus.refl _ | refine Plus.alloc ?_ _ | refine Plus.plus ?_ _ | refine Plus.drew ?_ | refine Plus.drewN ?_ _))) (hxb.out.vld.plus (by repeat' (first | exact Plus.refl _ | refine Plus.alloc ?_ _ | refine Plus.plus ?_ _ | refine Plus.drew ?_ | refine Plus.drewN ?_ _)))).mono ?_); rintro e w1 ⟨Db, kkb, rfl, hDb, ⟨yb, rfl⟩⟩; have HDb := Lib.hid hDb; clear hDb))
  go_returns
  exact ⟨rfl, (by repeat' (first | exact Plus.refl _ | refine Plus.alloc ?_ _ | refine Plus.plus ?_ _ | refine Plus.drew ?_ | refine Plus.drewN ?_ _))⟩
set_option maxRecDepth 100000 in
set_option maxHeartbeats 4000000 in
theorem joined_y {ka pa qa : Int} {ga : Bool} {Aa Ca : Option Addr} {na ca ma da : Nat} {ra : Int} {kb pb qb : Int} {gb : Bool} {Ab Cb : Option Addr} {nb cb mb db : Nat} {rb : Int} {xa : JV} {tsa : List Nat} {ma4 : Nat} {xb : JV} {tsb : List Nat} {mb4 : Nat} {n : Nat} (w : World) (hL : Hid (Lai w)) (hxa : Hid (NV w (Value.agg #[.int .i64 ka, .int .i64 pa, .int .i64 qa, .bool ga, .slice Aa na ca, .slice Ca ma da, .int .i64 ra]) xa)) (hta : Hid (txtJ xa = ⟨tsa, 0⟩ ∧ ma4 = tsa.length)) (hxb : Hid (NV w (Value.agg #[.int .i64 kb, .int .i64 pb, .int .i64 qb, .bool gb, .slice Ab nb cb, .slice Cb mb db, .int .i64 rb]) xb)) (htb : Hid (txtJ xb = ⟨tsb, 0⟩ ∧ mb4 = tsb.length)) (l1 : ma4 ≤ 4096) (l2 : mb4 ≤ 4096) (hn : Hid (n = ma4 + mb4)) (hn4 : n ≤ 4096) (hl : ¬ ((4096 : Int) < (ma4 : Int) + mb4)) : Calls Tryz.prog 120 #[Value.agg #[.int .i64 ka, .int .i64 pa, .int .i64 qa, .bool ga, .slice Aa na ca, .slice Ca ma da, .int .i64 ra], Value.agg #[.int .i64 kb, .int .i64 pb, .int .i64 qb, .bool gb, .slice Ab nb cb, .slice Cb mb db, .int .i64 rb]] w (RetF (FJ (.text (tsa ++ tsb)) 0) w) := by
  go_enter Tryz.func120, Tryz.ntmps120
  have hlen : (tsa ++ tsb).length ≤ 4096 := by rw [List.length_append, ← hta.out.2, ← htb.out.2]; omega
  go_wp2_with (first | (go_at_call_of 171 (Value.agg #[.int .i64 ka, .int .i64 pa, .int .i64 qa, .bool ga, .slice Aa na ca, .slice Ca ma da, .int .i64 ra]); (with_reducible refine (ctext_v hta _ (hL.out.plus (by repeat' (first | exact Plus.refl _ | refine Plus.alloc ?_ _ | refine Plus.plus ?_ _ | refine Plus.drew ?_ | refine Plus.drewN ?_ _))) (hxa.out.plus (by repeat' (first | exact Plus.refl _ | refine Plus.alloc ?_ _ | refine Plus.plus ?_ _ | refine Plus.drew ?_ | refine Plus.drewN ?_ _))) (hxa.out.vld.plus (by repeat' (first | exact Plus.refl _ | refine Plus.alloc ?_ _ | refine Plus.plus ?_ _ | refine Plus.drew ?_ | refine Plus.drewN ?_ _)))).mono ?_); rintro e w1 ⟨Da, kka, rfl, hDa, ⟨ya, rfl⟩⟩; have HDa := Lib.hid hDa; clear hDa) | (go_at_call_of 171 (Value.agg #[.int .i64 kb, .int .i64 pb, .int .i64 qb, .bool gb, .slice Ab nb cb, .slice Cb mb db, .int .i64 rb]); (with_reducible refine (ctext_v htb _ (hL.out.plus (by repeat' (first | exact Plus.refl _ | refine Plus.alloc ?_ _ | refine Plus.plus ?_ _ | refine Plus.drew ?_ | refine Plus.drewN ?_ _))) (hxb.out.plus (by repeat' (first | exact Plus.refl _ | refine Plus.alloc ?_ _ | refine Plus.plus ?_ _ | refine Plus.drew ?_ | refine Plus.drewN ?_ _))) (hxb.out.vld.plus (by repeat' (first | exact Plus.refl _ | refine Plus.alloc ?_ _ | refine Plus.plus ?_ _ | refine Plus.drew ?_ | refine Plus.drewN ?_ _)))).mono ?_); rintro e w1 ⟨Db, kkb, rfl, hDb, ⟨yb, rfl⟩⟩; have HDb := Lib.hid hDb; clear hDb) | (go_at_call 172; (with_reducible refine (concat_n hn.out _ (HDa.out.plus (by repeat' (first | exact Plus.refl _ | refine Plus.alloc ?_ _ | refine Plus.plus ?_ _ | refine Plus.drew ?_ | refine Plus.drewN ?_ _))) (HDb.out.plus (by repeat' (first | exact Plus.refl _ | refine Plus.alloc ?_ _ | refine Plus.plus ?_ _ | refine Plus.drew ?_ | refine Plus.drewN ?_ _))) l1 l2 (cell_pair (by first | rfl | (simp [size_plus, World.size_alloc]; done) | (simp [size_plus, World.size_alloc]; omega))).1 (cell_pair (by first | rfl | (simp [size_plus, World.size_alloc]; done) | (simp [size_plus, World.size_alloc]; omega))).2).mono ?_); rintro e w1 ⟨E, ke, rfl, hE, ⟨y3, rfl⟩⟩; have HE := Lib.hid hE; clear hE) | (go_at_call 22; (with_reducible refine (cstr_y _ (HE.out.plus (by repeat' (first | exact Plus.refl _ | refine Plus.alloc ?_ _ | refine Plus.plus ?_ _ | refine Plus.drew ?_ | refine Plus.drewN ?_ _))) hn4).mono ?_); rintro e w1 ⟨G, kg, rfl, hG, ⟨y4, rfl⟩⟩; have HG := Lib.hid hG; clear hG))
  go_returns
  exact ⟨_, _, _, _, _, _, _, _, _, _, _, _, rfl, ⟨(nv_text HG.out hlen).offs (by repeat (first | (refine Offp.of ?_; (repeat' (first | exact Offs.refl _ | refine Offs.plus ?_ _ | refine Offs.alloc ?_ _ | exact Offs.allocN (Offs.refl _) (nuV _ _ _ _ _ _ _ _ _ _ _ _) | refine Offs.allocN ?_ (nuV _ _ _ _ _ _ _ _ _ _ _ _) | refine Offs.allocN ?_ (nuB _ _ _ _ _) | refine Offs.allocN ?_ (nuN _ _ _) | refine Offs.drew ?_ | refine Offs.drewL ?_ | refine Offs.drewR ?_)); done) | refine Offp.plusR ?_ _ | refine Offp.allocR ?_ _ | refine Offp.drewR ?_)), rfl⟩, (by repeat' (first | exact Plus.refl _ | refine Plus.alloc ?_ _ | refine Plus.plus ?_ _ | refine Plus.drew ?_ | refine Plus.drewN ?_ _))⟩
set_option maxRecDepth 100000 in
set_option maxHeartbeats 4000000 in
theorem plus_t {ka pa qa : Int} {ga : Bool} {Aa Ca : Option Addr} {na ca ma da : Nat} {ra : Int} {kb pb qb : Int} {gb : Bool} {Ab Cb : Option Addr} {nb cb mb db : Nat} {rb : Int} (w : World) {F : Value → Int → World → Prop} (hS : Stab F) (he : ((ka == 5) || (kb == 5)) = true) (H : ∀ w1, Plus w w1 → Calls Tryz.prog 120 #[Value.agg #[.int .i64 ka, .int .i64 pa, .int .i64 qa, .bool ga, .slice Aa na ca, .slice Ca ma da, .int .i64 ra], Value.agg #[.int .i64 kb, .int .i64 pb, .int .i64 qb, .bool gb, .slice Ab nb cb, .slice Cb mb db, .int .i64 rb]] w1 (RetF F w1)) : Calls Tryz.prog 55 #[Value.agg #[.int .i64 ka, .int .i64 pa, .int .i64 qa, .bool ga, .slice Aa na ca, .slice Ca ma da, .int .i64 ra], Value.agg #[.int .i64 kb, .int .i64 pb, .int .i64 qb, .bool gb, .slice Ab nb cb, .slice Cb mb db, .int .i64 rb]] w (RetF F w) := by
  go_enter Tryz.func55, Tryz.ntmps55
  go_wp2_with (first | (go_at_call 119; (with_reducible refine (either_v he _).mono ?_); rintro e w1 ⟨rfl, ⟨x2, rfl⟩⟩) | (go_at_call 120; (with_reducible refine (H _ (by repeat' (first | exact Plus.refl _ | refine Plus.alloc ?_ _ | refine Plus.plus ?_ _ | refine Plus.drew ?_ | refine Plus.drewN ?_ _))).mono ?_); rintro e w1 ⟨k9, p9, q9, g9, A9, C9, n9, c9, m9, d9, r9, s9, rfl, hF, ⟨x9, rfl⟩⟩; have HF := Lib.hid hF; clear hF))
  go_returns
  exact ⟨_, _, _, _, _, _, _, _, _, _, _, _, rfl, hS _ _ _ _ HF.out (by repeat (first | (refine Offp.of ?_; (repeat' (first | exact Offs.refl _ | refine Offs.plus ?_ _ | refine Offs.alloc ?_ _ | exact Offs.allocN (Offs.refl _) (nuV _ _ _ _ _ _ _ _ _ _ _ _) | refine Offs.allocN ?_ (nuV _ _ _ _ _ _ _ _ _ _ _ _) | refine Offs.allocN ?_ (nuB _ _ _ _ _) | refine Offs.allocN ?_ (nuN _ _ _) | refine Offs.drew ?_ | refine Offs.drewL ?_ | refine Offs.drewR ?_)); done) | refine Offp.plusR ?_ _ | refine Offp.allocR ?_ _ | refine Offp.drewR ?_)), (by repeat' (first | exact Plus.refl _ | refine Plus.alloc ?_ _ | refine Plus.plus ?_ _ | refine Plus.drew ?_ | refine Plus.drewN ?_ _))⟩
set_option maxRecDepth 100000 in
set_option maxHeartbeats 4000000 in
theorem plus_a {ka pa qa : Int} {ga : Bool} {Aa Ca : Option Addr} {na ca ma da : Nat} {ra : Int} {kb pb qb : Int} {gb : Bool} {Ab Cb : Option Addr} {nb cb mb db : Nat} {rb : Int} (w : World) {F : Value → Int → World → Prop} (hS : Stab F) (he : ((ka == 5) || (kb == 5)) = false) (H : ∀ w1, Plus w w1 → Calls Tryz.prog 56 #[.string ⟨#[43]⟩, Value.agg #[.int .i64 ka, .int .i64 pa, .int .i64 qa, .bool ga, .slice Aa na ca, .slice Ca ma da, .int .i64 ra], Value.agg #[.int .i64 kb, .int .i64 pb, .int .i64 qb, .bool gb, .slice Ab nb cb, .slice Cb mb db, .int .i64 rb]] w1 (RetF F w1)) : Calls Tryz.prog 55 #[Value.agg #[.int .i64 ka, .int .i64 pa, .int .i64 qa, .bool ga, .slice Aa na ca, .slice Ca ma da, .int .i64 ra], Value.agg #[.int .i64 kb, .int .i64 pb, .int .i64 qb, .bool gb, .slice Ab nb cb, .slice Cb mb db, .int .i64 rb]] w (RetF F w) := by
  go_enter Tryz.func55, Tryz.ntmps55
  go_wp2_with (first | (go_at_call 119; (with_reducible refine (either_v he _).mono ?_); rintro e w1 ⟨rfl, ⟨x2, rfl⟩⟩) | (go_at_call 56; (with_reducible refine (H _ (by repeat' (first | exact Plus.refl _ | refine Plus.alloc ?_ _ | refine Plus.plus ?_ _ | refine Plus.drew ?_ | refine Plus.drewN ?_ _))).mono ?_); rintro e w1 ⟨k9, p9, q9, g9, A9, C9, n9, c9, m9, d9, r9, s9, rfl, hF, ⟨x9, rfl⟩⟩; have HF := Lib.hid hF; clear hF))
  go_returns
  exact ⟨_, _, _, _, _, _, _, _, _, _, _, _, rfl, hS _ _ _ _ HF.out (by repeat (first | (refine Offp.of ?_; (repeat' (first | exact Offs.refl _ | refine Offs.plus ?_ _ | refine Offs.alloc ?_ _ | exact Offs.allocN (Offs.refl _) (nuV _ _ _ _ _ _ _ _ _ _ _ _) | refine Offs.allocN ?_ (nuV _ _ _ _ _ _ _ _ _ _ _ _) | refine Offs.allocN ?_ (nuB _ _ _ _ _) | refine Offs.allocN ?_ (nuN _ _ _) | refine Offs.drew ?_ | refine Offs.drewL ?_ | refine Offs.drewR ?_)); done) | refine Offp.plusR ?_ _ | refine Offp.allocR ?_ _ | refine Offp.drewR ?_)), (by repeat' (first | exact Plus.refl _ | refine Plus.alloc ?_ _ | refine Plus.plus ?_ _ | refine Plus.drew ?_ | refine Plus.drewN ?_ _))⟩
end Go.Proofs.YtgljfgkkolfnbaaGreatDoor
