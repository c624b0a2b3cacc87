/- slices.Grow and slices.Concat at texts. -/
import Derived.Shelf.Spec.SlicesGrow
import Derived.Deep.LoopGhost
import Derived.Laws.AppendOwn
import Derived.IntWalk
import Derived.Test.YtakahpbondaidaaGreatDoorPZJ
import Derived.Test.YtakahpbondaidaaGreatDoorPZB
import Derived.Test.YtakahpbondaidaaGreatDoorPA6
import Derived.Test.YtakahpbondaidaaGreatDoorPZR
import Derived.Test.YtakahpbondaidaaGreatDoorPA1
namespace Go.Proofs
open Go.Shelf
def Tryz.growU16_ren : Go.Shelf.Ren := ⟨fun | 4 => 268 | n => n, fun | 22 => 27 | 25 => 87 | 3 => 3 | 4 => 4 | 9 => 9 | 20 => 20 | 0 => 0 | n => n, fun | n => n⟩
theorem Tryz.growU16 : Go.Proofs.Lays8.n4 Tryz.prog Tryz.growU16_ren := {
  mixed := by kernel_rfl
  f4 := ⟨Tryz.f268.name, by decide, Tryz.func268.trans (congrArg some (by kernel_rfl))⟩
  t0 := Tryz.underlying0
  a0 := Tryz.isAgg0
  z0 := Tryz.sizeOf0
  v0 := Tryz.zeroValue0
  t3 := Tryz.underlying3
  a3 := Tryz.isAgg3
  z3 := Tryz.sizeOf3
  v3 := Tryz.zeroValue3
  t4 := Tryz.underlying4
  a4 := Tryz.isAgg4
  z4 := Tryz.sizeOf4
  v4 := Tryz.zeroValue4
  t9 := Tryz.underlying9
  a9 := Tryz.isAgg9
  z9 := Tryz.sizeOf9
  v9 := Tryz.zeroValue9
  t20 := Tryz.underlying20
  a20 := Tryz.isAgg20
  z20 := Tryz.sizeOf20
  v20 := Tryz.zeroValue20
  t22 := Tryz.underlying27
  a22 := Tryz.isAgg27
  z22 := Tryz.sizeOf27
  v22 := Tryz.zeroValue27 }
end Go.Proofs
namespace Go.Proofs.YtakahpbondaidaaGreatDoor
open Go.RowKit

theorem grow_c (n : Nat) (hn : n ≤ 65536) (w : World) : Calls Tryz.prog 268 #[.slice none 0 0, .int .i64 n] w fun e w' => ∃ v, e = .returned v ∧ w'.ownsRow w.heap.size 87 1 v 0 [] ∧ Plus w w' := by
  obtain ⟨i0, hi, hz0, hz1, hz2⟩ := info_parts infoU16
  by_cases h0 : n = 0
  · subst h0
    refine (Any8.slices_Grow_room Tryz.growU16 none 0 0 0 w (by omega) (by omega) (by omega) (by omega)).mono ?_
    rintro e w' ⟨rfl, rfl⟩
    exact ⟨_, rfl, World.ownsRow_nil _ _ _ _, Plus.refl _⟩
  · refine (Any8.slices_Grow_grow Tryz.growU16 i0 (.int .u16 0) hi hz0 (by omega) none 0 0 n [] w (by omega) (by omega) (by rw [hz2]; omega) (by omega) (by simp) (fun _ => rfl) (fun a h => by cases h)).mono ?_
    rintro e w' ⟨rfl, rfl⟩
    refine ⟨_, rfl, ?_, ?_⟩
    · have hm : grownCap w (0 + n) 0 87 ≤ maxLen := grownCap_le_maxLen w _ _ _ (by unfold maxLen; omega)
      exact World.ownsRow_made w.drew _ _ (Nat.le_refl _) hm (by have hg := grownCap_ge w (0 + n) 0 87; simp only [Array.size_append, size_zeroCells]; show 0 + (0 + n - 0) * 1 + (grownCap w (0 + n) 0 87 - (0 + n)) * 1 = grownCap w (0 + n) 0 87 * 1; omega)
    · exact Plus.alloc (Plus.drew (Plus.refl _)) _
theorem rd_news {k : IntKind} {w : World} {ad : Addr} {xs : List Nat} (h : Rd k w (some ad) xs) : ∀ j v, (vals k xs)[j]? = some v → w.cell? (ad.add j) = some v := fun j v hj => by
  unfold vals at hj
  rw [List.getElem?_map] at hj
  have hlt : j < xs.length := by
    apply Nat.lt_of_not_le
    intro q
    rw [List.getElem?_eq_none q] at hj
    cases hj
  obtain ⟨g, o, e, hg, hat⟩ := h (by omega)
  obtain rfl := Option.some.inj e
  rw [List.getElem?_eq_getElem hlt] at hj
  rw [add_addr, hat j hlt, ← hj, List.getD_eq_getElem?_getD, List.getElem?_eq_getElem hlt]
  rfl
theorem vals_one (k : IntKind) (xs : List Nat) : ∀ u ∈ vals k xs, u.oneCell' = true := fun u h => by
  obtain ⟨x, _, rfl⟩ := List.mem_map.1 h
  rfl


/-- An append of what lies in memory, nil too, to a row of the call's own. -/
theorem run_append_rd {w : World} (base : Nat) (t ty e : TypeId) (i : TypeInfo) (z : Value) (bytes : Nat) (k : IntKind) (ht : Tryz.prog.underlying t = some (.slice e)) (hi : Tryz.prog.info? e = some i) (hz : i.zero = some z) (hsize : i.size = 1) (hby : i.bytes = bytes) (hzs : z.cells.size = 1)
    (v : Value) (xs ys : List Nat) (hown : w.ownsRow base e 1 v xs.length (vals k xs)) (A : Option Addr) (m c : Nat) (hm : m = ys.length) (hr : Rd k w A ys) (h63 : xs.length + ys.length ≤ maxLen) (hbytes : (xs.length + ys.length) * bytes ≤ 140737488355328) (hbase : base ≤ w.heap.size) :
    ∃ v' w', (Builtin.append_ #[t, t] ty #[v, .slice A m c]).run Tryz.prog w = .ok v' w' ∧ w'.ownsRow base e 1 v' (xs.length + ys.length) (vals k xs ++ vals k ys) ∧ w.grownBy w' v.ownBlock := by
  subst hm
  cases A with
  | some ad =>
    obtain ⟨v', w', q1, q2, q3, _⟩ := run_append_own (P := Tryz.prog) w base t ty e i z 1 bytes ht hi hz hsize hby hzs (by decide) v xs.length (vals k xs) hown ad ys.length c (vals k ys) (by rw [vals_len, Nat.mul_one]) (rd_news hr) (vals_one k ys) h63 hbytes hbase
    exact ⟨v', w', q1, q2, q3⟩
  | none =>
    have h0 : ys = [] := by
      rcases ys with _ | ⟨y, ys⟩
      · rfl
      · obtain ⟨g, o, e, _⟩ := hr (by simp)
        cases e
    subst h0
    refine ⟨v, w, ?_, by simpa [vals] using hown, World.grownBy.refl w _⟩
    rcases hown.2 with ⟨rfl, _⟩ | ⟨g, cap, cur, rfl, _, _, hnc, _⟩
    · simp [Builtin.append_, run_underlying ht, sizeOf, typeInfo, hi, Builtin.lenOf, Builtin.firstCells]
    · simp [Builtin.append_, run_underlying ht, sizeOf, typeInfo, hi, Builtin.lenOf, Builtin.firstCells, hnc, storeCells]
theorem wpList_append_rd {ops : Array Oper} {rest : List Oper} {o : Oper} {a : Act} {w : World} {Q : Exit → Act → World → Prop} (hgd : Region.wanted o (yielded ops a.tmps) = true) (s x : Operand) (t : TypeId)
    (ho : o.op = .call { callee := .builtin .append, args := #[s, x], argTypes := #[t, t] }) (base : Nat) (e : TypeId) (i : TypeInfo) (z : Value) (bytes : Nat) (k : IntKind) (ht : Tryz.prog.underlying t = some (.slice e)) (hi : Tryz.prog.info? e = some i) (hz : i.zero = some z) (hsize : i.size = 1) (hby : i.bytes = bytes) (hzs : z.cells.size = 1)
    (v : Value) (xs ys : List Nat) (hs : a.eval s = v) (hown : w.ownsRow base e 1 v xs.length (vals k xs)) (A : Option Addr) (m c : Nat) (hx : a.eval x = .slice A m c) (hm : m = ys.length) (hr : Rd k w A ys) (h63 : xs.length + ys.length ≤ maxLen) (hbytes : (xs.length + ys.length) * bytes ≤ 140737488355328) (hbase : base ≤ w.heap.size)
    (h : ∀ v' w', w'.ownsRow base e 1 v' (xs.length + ys.length) (vals k xs ++ vals k ys) → w.grownBy w' v.ownBlock → wpList Tryz.prog ops Q rest (a.put o.dst v') w') : wpList Tryz.prog ops Q (o :: rest) a w :=
  wpList_step fun K hK => by
    rw [if_pos hgd]
    obtain ⟨v', w', hrun, h2, h3⟩ := run_append_rd base t o.type e i z bytes k ht hi hz hsize hby hzs v xs ys hown A m c hm hr h63 hbytes hbase
    unfold Oper.wp execOp
    simp only [ho, resolve, invoke, builtin, Sem.run_bind, Sem.run_pure, Result.andThen_ok, List.map_toArray, List.map_cons, List.map_nil, hs, hx, hrun]
    exact hK _ _ (h v' w' h2 h3)
theorem below_rd {W W2 w1 : World} {t n : Nat} {v : Value} {l : List Value} {z : Nat} (h0 : W2.ownsRow W.heap.size t z v n l) (hp : Plus W W2) (hg : W2.grownBy w1 v.ownBlock) : Plus W w1 := by
  refine Plus.of_below (hp.below.grown hg hp.below.size (fun j hj => ?_))
  rcases h0.2 with ⟨rfl, _⟩ | ⟨g, cap, cur, rfl, hbg, _⟩
  · cases hj
  · injection hj with hj
    subst hj
    exact hbg
def CatA (m1 m2 : Nat) (w : World) (s3 s11 : Value) (wr : World) : Prop := w = wr ∧ ((s11 = .int .i64 0 ∧ s3 = .int .i64 0) ∨ (s11 = .int .i64 1 ∧ s3 = .int .i64 m1) ∨ (s11 = .int .i64 2 ∧ s3 = .int .i64 ((m1 : Int) + m2)))
def CatB (xs ys : List Nat) (w : World) (s6 s27 : Value) (wr : World) : Prop := Plus w wr ∧
  ((s27 = .int .i64 0 ∧ wr.ownsRow w.heap.size 87 1 s6 0 []) ∨ (s27 = .int .i64 1 ∧ wr.ownsRow w.heap.size 87 1 s6 xs.length (vals .u16 xs)) ∨ (s27 = .int .i64 2 ∧ wr.ownsRow w.heap.size 87 1 s6 (xs ++ ys).length (vals .u16 (xs ++ ys))))
theorem grow_v {z : Int} (n : Nat) (hz : z = n) (hn : n ≤ 65536) (w : World) : Calls Tryz.prog 268 #[.slice none 0 0, .int .i64 z] w fun e w' => ∃ v, e = .returned v ∧ w'.ownsRow w.heap.size 87 1 v 0 [] ∧ Plus w w' := by
  subst hz
  exact grow_c n hn w
set_option maxRecDepth 100000 in
set_option maxHeartbeats 8000000 in
theorem concat_c (g : Nat) (D1 D2 : Option Addr) (xs ys : List Nat) (m1 k1 m2 k2 : Nat) (w : World) (h1 : Hid (Ar .u16 65536 w D1 xs m1 k1)) (h2 : Hid (Ar .u16 65536 w D2 ys m2 k2)) (l1 : m1 ≤ 4096) (l2 : m2 ≤ 4096)
    (c0 : w.cell? ⟨g, 0, none⟩ = some (.slice D1 m1 k1)) (c1 : w.cell? ⟨g, 1, none⟩ = some (.slice D2 m2 k2)) :
    Calls Tryz.prog 248 #[.slice (some ⟨g, 0, none⟩) 2 2] w fun e w' => ∃ v, e = .returned v ∧ w'.ownsRow w.heap.size 87 1 v (xs ++ ys).length (vals .u16 (xs ++ ys)) ∧ Plus w w' := by
  obtain ⟨i0, hi, hz0, hz1, hz2⟩ := info_parts infoU16
  have w1 : ¬ ((m1 : Int) < 0) := by omega
  have w2 : ¬ ((m1 : Int) + m2 < 0) := by omega
  go_enter Tryz.func248, Tryz.ntmps248
  go_wp2
  go_loopw [3, 5, 11] (fun s3 _ s11 wr => CatA m1 m2 w s3 s11 wr) (fun _ _ s11 _ => ((2 : Int) - intOf s11).toNat)
  case atStart => exact ⟨rfl, .inl ⟨rfl, rfl⟩⟩
  case round =>
    obtain ⟨rfl, ⟨rfl, rfl⟩ | ⟨rfl, rfl⟩ | ⟨rfl, rfl⟩⟩ := hrel
    · go_wp2_with fail
      go_roundw
      case rel => exact ⟨rfl, .inr (.inl ⟨rfl, by simp⟩)⟩
      case measure => simp [intOf]
    · go_wp2_with fail
      go_roundw
      case rel => exact ⟨rfl, .inr (.inr ⟨rfl, rfl⟩)⟩
      case measure => simp [intOf]
    · go_wp2_with (go_at_call 268; refine (grow_v (m1 + m2) (by omega) (by omega) _).mono ?_; rintro e w1 ⟨v0, rfl, hown, ⟨x0, rfl⟩⟩; have HW0 := Lib.hid hown; clear hown)
      go_loopw [6, 8, 27] (fun s6 _ s27 wr => CatB xs ys w s6 s27 wr) (fun _ _ s27 _ => ((2 : Int) - intOf s27).toNat)
      case atStart => exact ⟨(by repeat' (first | exact Plus.refl _ | refine Plus.alloc ?_ _ | refine Plus.plus ?_ _ | refine Plus.drew ?_ | refine Plus.drewN ?_ _)), .inl ⟨rfl, HW0.out⟩⟩
      case round =>
        obtain ⟨hP, ⟨rfl, ho⟩ | ⟨rfl, ho⟩ | ⟨rfl, ho⟩⟩ := hrel
        · obtain ⟨y, rfl⟩ := hP
          have d0 := cell_plus c0 (Plus.is y)
          have d1 := cell_plus c1 (Plus.is y)
          have HO := Lib.hid ho
          clear ho
          go_wp2_with (at_builtin; refine wpList_append_rd (by rfl) _ _ 27 rfl w.heap.size 87 i0 (.int .u16 0) 2 .u16 Tryz.underlying27 hi hz0 hz1 hz2 (by decide) _ [] xs rfl HO.out _ _ _ rfl h1.out.len (h1.out.rd.plus (by repeat' (first | exact Plus.refl _ | refine Plus.alloc ?_ _ | refine Plus.plus ?_ _ | refine Plus.drew ?_ | refine Plus.drewN ?_ _))) (by (try rw [← h1.out.len]); (try rw [← h2.out.len]); (try simp only [List.length_nil]); unfold maxLen; omega) (by (try rw [← h1.out.len]); (try rw [← h2.out.len]); (try simp only [List.length_nil]); omega) (by simp [go_sem] <;> omega) ?_; intro vv w1 hown1 hgr1; have HP := Lib.hid (below_rd HO.out (show Plus w _ from (by repeat' (first | exact Plus.refl _ | refine Plus.alloc ?_ _ | refine Plus.plus ?_ _ | refine Plus.drew ?_ | refine Plus.drewN ?_ _))) hgr1); have HN := Lib.hid hown1; clear hown1 hgr1)
          go_roundw
          case rel => exact ⟨HP.out, .inr (.inl ⟨rfl, by simpa [vals] using HN.out⟩)⟩
          case measure => simp [intOf]
        · obtain ⟨y, rfl⟩ := hP
          have d0 := cell_plus c0 (Plus.is y)
          have d1 := cell_plus c1 (Plus.is y)
          have HO := Lib.hid ho
          clear ho
          go_wp2_with (at_builtin; refine wpList_append_rd (by rfl) _ _ 27 rfl w.heap.size 87 i0 (.int .u16 0) 2 .u16 Tryz.underlying27 hi hz0 hz1 hz2 (by decide) _ xs ys rfl HO.out _ _ _ rfl h2.out.len (h2.out.rd.plus (by repeat' (first | exact Plus.refl _ | refine Plus.alloc ?_ _ | refine Plus.plus ?_ _ | refine Plus.drew ?_ | refine Plus.drewN ?_ _))) (by (try rw [← h1.out.len]); (try rw [← h2.out.len]); (try simp only [List.length_nil]); unfold maxLen; omega) (by (try rw [← h1.out.len]); (try rw [← h2.out.len]); (try simp only [List.length_nil]); omega) (by simp [go_sem] <;> omega) ?_; intro vv w1 hown1 hgr1; have HP := Lib.hid (below_rd HO.out (show Plus w _ from (by repeat' (first | exact Plus.refl _ | refine Plus.alloc ?_ _ | refine Plus.plus ?_ _ | refine Plus.drew ?_ | refine Plus.drewN ?_ _))) hgr1); have HN := Lib.hid hown1; clear hown1 hgr1)
          go_roundw
          case rel => exact ⟨HP.out, .inr (.inr ⟨rfl, by rw [List.length_append, vals_app]; exact HN.out⟩)⟩
          case measure => simp [intOf]
        · have HO := Lib.hid ho
          have HP := Lib.hid hP
          clear ho hP
          go_wp2_with fail
          go_ret
          exact ⟨_, rfl, HO.out, HP.out⟩
end Go.Proofs.YtakahpbondaidaaGreatDoor
namespace Go.Proofs.YtakahpbondaidaaGreatDoor
open Go.RowKit




/-- How two lists are ordered. -/
def cmpL : List Nat → List Nat → Int
  | [], [] => 0
  | [], _ :: _ => -1
  | _ :: _, [] => 1
  | a :: l, b :: r => if a < b then -1 else if b < a then 1 else cmpL l r
theorem drop_cons {xs : List Nat} {k : Nat} (h : k < xs.length) : xs.drop k = xs.getD k 0 :: xs.drop (k + 1) := by
  rw [List.drop_eq_getElem_cons h, List.getD_eq_getElem?_getD, List.getElem?_eq_getElem h]
  rfl
theorem drop_end {xs : List Nat} {k : Nat} (h : xs.length ≤ k) : xs.drop k = [] := List.drop_eq_nil_of_le h
theorem isNaN16_c (x : Nat) (w : World) : Calls Tryz.prog 288 #[.int .u16 x] w fun e w' => e = .returned (.bool false) ∧ w = w' := by
  have hb : ((x : Int) != (x : Int)) = false := by simp
  go_enter Tryz.func288, Tryz.ntmps288
  go_wp2
  go_ret
  exact ⟨rfl, rfl⟩
def cmp2 (x y : Nat) : Int := if x < y then -1 else if y < x then 1 else 0
theorem cmp2_c (x y : Nat) (w : World) : Calls Tryz.prog 281 #[.int .u16 x, .int .u16 y] w fun e w' => e = .returned (.int .i64 (cmp2 x y)) ∧ w = w' := by
  rcases Nat.lt_trichotomy x y with h | h | h
  · have d1 : decide ((x : Int) < (y : Int)) = true := by simp [h]
    have d2 : decide (x < y) = true := by simp [h]
    go_enter Tryz.func281, Tryz.ntmps281
    go_wp2_with (go_at_call 288; refine (isNaN16_c _ _).mono ?_; rintro e w1 ⟨rfl, rfl⟩)
    go_ret
    exact ⟨by unfold cmp2; rw [if_pos h]; rfl, rfl⟩
  · subst h
    go_enter Tryz.func281, Tryz.ntmps281
    go_wp2_with (go_at_call 288; refine (isNaN16_c _ _).mono ?_; rintro e w1 ⟨rfl, rfl⟩)
    go_ret
    exact ⟨by unfold cmp2; rw [if_neg (by omega), if_neg (by omega)]; rfl, rfl⟩
  · have d1 : decide ((x : Int) < (y : Int)) = false := by simp; omega
    have d2 : decide (x < y) = false := by simp; omega
    have d3 : decide ((y : Int) < (x : Int)) = true := by simp; omega
    have d4 : decide (y < x) = true := by simp; omega
    go_enter Tryz.func281, Tryz.ntmps281
    go_wp2_with (go_at_call 288; refine (isNaN16_c _ _).mono ?_; rintro e w1 ⟨rfl, rfl⟩)
    go_ret
    exact ⟨by unfold cmp2; rw [if_neg (by omega), if_pos h]; rfl, rfl⟩
def CmpRel (xs ys : List Nat) (s11 : Value) : Prop := ∃ k : Nat, k ≤ xs.length ∧ k ≤ ys.length ∧ s11 = .int .i64 k ∧ cmpL xs ys = cmpL (xs.drop k) (ys.drop k)
set_option maxRecDepth 100000 in
set_option maxHeartbeats 1000000 in
theorem compare_c (A C : Option Addr) (xs ys : List Nat) (n c m d : Nat) (w : World) (ha : Ar .u16 65536 w A xs n c) (hb : Ar .u16 65536 w C ys m d) :
    Calls Tryz.prog 269 #[.slice A n c, .slice C m d] w fun e w' => e = .returned (.int .i64 (cmpL xs ys)) ∧ w = w' := by
  obtain ⟨hrd, hlen, hcap, hmax, hbd⟩ := ha
  obtain ⟨krd, klen, kcap, kmax, kbd⟩ := hb
  subst hlen klen
  go_enter Tryz.func269, Tryz.ntmps269
  go_wp2
  go_loop [11] (CmpRel xs ys) (fun s => ((xs.length : Int) - intOf s).toNat)
  case atStart => exact ⟨0, by omega, by omega, rfl, rfl⟩
  case round =>
    obtain ⟨k, hk, hk2, rfl, he⟩ := hrel
    by_cases hlt : k < xs.length
    · obtain ⟨g, o, rfl, hg, hat⟩ := hrd.at_ hlt
      have hcell := hat k hlt
      have hadd := add_addr g o k
      have HA1 := Lib.hid (drop_cons hlt)
      have HE := Lib.hid he
      clear he hat
      obtain ⟨v, hv⟩ : ∃ v, xs.getD k 0 = v := ⟨_, rfl⟩
      rw [hv] at hcell
      by_cases hlt2 : k < ys.length
      · obtain ⟨g2, o2, rfl, hg2, hat2⟩ := krd.at_ hlt2
        have hcell2 := hat2 k hlt2
        have hadd2 := add_addr g2 o2 k
        have HA2 := Lib.hid (drop_cons hlt2)
        obtain ⟨u, hu⟩ : ∃ u, ys.getD k 0 = u := ⟨_, rfl⟩
        rw [hu] at hcell2
        have HV := Lib.hid hv
        have HU := Lib.hid hu
        clear hv hu hat2
        rcases Nat.lt_trichotomy v u with h | h | h
        · have hc : cmp2 v u = -1 := by unfold cmp2; rw [if_pos h]
          have HC := Lib.hid hc
          have HR : Hid (cmpL xs ys = -1) := Lib.hid (by rw [HE.out, HA1.out, HA2.out, HV.out, HU.out]; unfold cmpL; rw [if_pos h])
          clear hc
          go_wp2_with (go_at_call 281; refine (cmp2_c _ _ _).mono ?_; rintro e w1 ⟨rfl, rfl⟩; rw [HC.out])
          go_ret
          exact ⟨by rw [HR.out]; rfl, rfl⟩
        · subst h
          have hc : cmp2 v v = 0 := by unfold cmp2; rw [if_neg (by omega), if_neg (by omega)]
          have HC := Lib.hid hc
          have HR : Hid (cmpL xs ys = cmpL (xs.drop (k + 1)) (ys.drop (k + 1))) := Lib.hid (by rw [HE.out, HA1.out, HA2.out, HV.out, HU.out]; conv => lhs; unfold cmpL
                                                                                               rw [if_neg (by omega), if_neg (by omega)])
          clear hc
          go_wp2_with (go_at_call 281; refine (cmp2_c _ _ _).mono ?_; rintro e w1 ⟨rfl, rfl⟩; rw [HC.out])
          go_round
          case rel => exact ⟨k + 1, hlt, hlt2, by rw [show ((k + 1 : Nat) : Int) = (k : Int) + 1 by omega], HR.out⟩
          case measure => simp [intOf]; omega
        · have hc : cmp2 v u = 1 := by unfold cmp2; rw [if_neg (by omega), if_pos h]
          have HC := Lib.hid hc
          have HR : Hid (cmpL xs ys = 1) := Lib.hid (by rw [HE.out, HA1.out, HA2.out, HV.out, HU.out]; unfold cmpL; rw [if_neg (by omega), if_pos h])
          clear hc
          go_wp2_with (go_at_call 281; refine (cmp2_c _ _ _).mono ?_; rintro e w1 ⟨rfl, rfl⟩; rw [HC.out])
          go_ret
          exact ⟨by rw [HR.out]; rfl, rfl⟩
      · have HR : Hid (cmpL xs ys = 1) := Lib.hid (by rw [HE.out, HA1.out, drop_end (by omega : ys.length ≤ k)]; rfl)
        obtain rfl : k = ys.length := by omega
        clear hv
        go_wp2
        go_ret
        exact ⟨by rw [HR.out]; rfl, rfl⟩
    · obtain rfl : k = xs.length := by omega
      rw [drop_end (Nat.le_refl _)] at he
      by_cases hlt2 : xs.length < ys.length
      · have HR : Hid (cmpL xs ys = -1) := Lib.hid (by rw [he, drop_cons hlt2]; rfl)
        clear he
        go_wp2
        go_ret
        exact ⟨by rw [HR.out]; rfl, rfl⟩
      · have HR : Hid (cmpL xs ys = 0) := Lib.hid (by rw [he, drop_end (by omega)]; rfl)
        clear he
        go_wp2
        go_ret
        exact ⟨by rw [HR.out]; rfl, rfl⟩
end Go.Proofs.YtakahpbondaidaaGreatDoor
namespace Go.Proofs.YtakahpbondaidaaGreatDoor
open Go.RowKit

set_option maxRecDepth 100000 in
set_option maxHeartbeats 4000000 in
theorem arith_NN {op : ByteArray} {ka pa qa : Int} {ga : Bool} {Aa Ca : Option Addr} {na ca ma da : Nat} {ra : Int} {kb pb qb : Int} {gb : Bool} {Ab Cb : Option Addr} {nb cb mb db : Nat} {rb : Int} {xa : JV} {aa ba : Int} {xb : JV} {ab bb : Int} (w : World) (hL : Hid (Lai w)) (hxa : Hid (NV w (Value.agg #[.int .i64 ka, .int .i64 pa, .int .i64 qa, .bool ga, .slice Aa na ca, .slice Ca ma da, .int .i64 ra]) xa)) (hJa : Hid (numJ xa = ⟨aa, ba, 0⟩)) (nba : ∀ z, xa ≠ .big z) (hxb : Hid (NV w (Value.agg #[.int .i64 kb, .int .i64 pb, .int .i64 qb, .bool gb, .slice Ab nb cb, .slice Cb mb db, .int .i64 rb]) xb)) (hJb : Hid (numJ xb = ⟨ab, bb, 0⟩)) (nbb : ∀ z, xb ≠ .big z) {F : Value → Int → World → Prop} (hS : Stab F) (HN : ∀ w1, Plus w w1 → Calls Tryz.prog 92 #[.string op, .agg #[.int .i64 aa, .int .i64 ba], .agg #[.int .i64 ab, .int .i64 bb]] w1 (RetF F w1)) : Calls Tryz.prog 139 #[.string op, Value.agg #[.int .i64 ka, .int .i64 pa, .int .i64 qa, .bool ga, .slice Aa na ca, .slice Ca ma da, .int .i64 ra], Value.agg #[.int .i64 kb, .int .i64 pb, .int .i64 qb, .bool gb, .slice Ab nb cb, .slice Cb mb db, .int .i64 rb]] w (RetF F w) := by
  go_enter Tryz.func139, Tryz.ntmps139
  go_wp2_with (first | (go_at_call 212; (with_reducible refine (operands_NN _ (Lib.hid (hL.out.plus (by repeat' (first | exact Plus.refl _ | refine Plus.alloc ?_ _ | refine Plus.plus ?_ _ | refine Plus.drew ?_ | refine Plus.drewN ?_ _)))) (Lib.hid (hxa.out.plus (by repeat' (first | exact Plus.refl _ | refine Plus.alloc ?_ _ | refine Plus.plus ?_ _ | refine Plus.drew ?_ | refine Plus.drewN ?_ _)))) hJa nba (Lib.hid (hxb.out.plus (by repeat' (first | exact Plus.refl _ | refine Plus.alloc ?_ _ | refine Plus.plus ?_ _ | refine Plus.drew ?_ | refine Plus.drewN ?_ _)))) hJb nbb).mono ?_); rintro e w1 ⟨rfl, ⟨y1, rfl⟩⟩) | (go_at_call 92; (with_reducible refine (HN _ (by repeat' (first | exact Plus.refl _ | refine Plus.alloc ?_ _ | refine Plus.plus ?_ _ | refine Plus.drew ?_ | refine Plus.drewN ?_ _))).mono ?_); rintro e w1 ⟨k9, p9, q9, g9, A9, C9, n9, c9, m9, d9, r9, s9, rfl, hF, ⟨x9, rfl⟩⟩; have HF := Lib.hid hF; clear hF))
  go_returns
  exact ⟨_, _, _, _, _, _, _, _, _, _, _, _, rfl, hS _ _ _ _ HF.out (by repeat (first | (refine Offp.of ?_; (repeat' (first | exact Offs.refl _ | refine Offs.plus ?_ _ | refine Offs.alloc ?_ _ | exact Offs.allocN (Offs.refl _) (nuV _ _ _ _ _ _ _ _ _ _ _ _) | refine Offs.allocN ?_ (nuV _ _ _ _ _ _ _ _ _ _ _ _) | refine Offs.allocN ?_ (nuB _ _ _ _ _) | refine Offs.allocN ?_ (nuN _ _ _) | refine Offs.drew ?_ | refine Offs.drewL ?_ | refine Offs.drewR ?_)); done) | refine Offp.plusR ?_ _ | refine Offp.allocR ?_ _ | refine Offp.drewR ?_)), (by repeat' (first | exact Plus.refl _ | refine Plus.alloc ?_ _ | refine Plus.plus ?_ _ | refine Plus.drew ?_ | refine Plus.drewN ?_ _))⟩
set_option maxRecDepth 100000 in
set_option maxHeartbeats 4000000 in
theorem arith_BN {op : ByteArray} {ka pa qa : Int} {ga : Bool} {Aa Ca : Option Addr} {na ca ma da : Nat} {ra : Int} {kb pb qb : Int} {gb : Bool} {Ab Cb : Option Addr} {nb cb mb db : Nat} {rb : Int} {za : Int} {xb : JV} {ab bb : Int} (w : World) (hL : Hid (Lai w)) (hxa : Hid (NV w (Value.agg #[.int .i64 ka, .int .i64 pa, .int .i64 qa, .bool ga, .slice Aa na ca, .slice Ca ma da, .int .i64 ra]) (.big za))) (hxb : Hid (NV w (Value.agg #[.int .i64 kb, .int .i64 pb, .int .i64 qb, .bool gb, .slice Ab nb cb, .slice Cb mb db, .int .i64 rb]) xb)) (hJb : Hid (numJ xb = ⟨ab, bb, 0⟩)) (nbb : ∀ z, xb ≠ .big z) : Calls Tryz.prog 139 #[.string op, Value.agg #[.int .i64 ka, .int .i64 pa, .int .i64 qa, .bool ga, .slice Aa na ca, .slice Ca ma da, .int .i64 ra], Value.agg #[.int .i64 kb, .int .i64 pb, .int .i64 qb, .bool gb, .slice Ab nb cb, .slice Cb mb db, .int .i64 rb]] w (fun e w' => e = .returned (.tuple #[Value.agg #[.int .i64 0, .int .i64 0, .int .i64 0, .bool false, .slice none 0 0, .slice none 0 0, .int .i64 0], .int .i64 1]) ∧ Plus w w') := by
  go_enter Tryz.func139, Tryz.ntmps139
  go_wp2_with (go_at_call 212; (with_reducible refine (operands_BN _ (Lib.hid (hL.out.plus (by repeat' (first | exact Plus.refl _ | refine Plus.alloc ?_ _ | refine Plus.plus ?_ _ | refine Plus.drew ?_ | refine Plus.drewN ?_ _)))) (Lib.hid (hxa.out.plus (by repeat' (first | exact Plus.refl _ | refine Plus.alloc ?_ _ | refine Plus.plus ?_ _ | refine Plus.drew ?_ | refine Plus.drewN ?_ _)))) (Lib.hid (hxb.out.plus (by repeat' (first | exact Plus.refl _ | refine Plus.alloc ?_ _ | refine Plus.plus ?_ _ | refine Plus.drew ?_ | refine Plus.drewN ?_ _)))) hJb nbb).mono ?_); rintro e w1 ⟨rfl, ⟨y1, rfl⟩⟩)
  go_returns
  exact ⟨rfl, (by repeat' (first | exact Plus.refl _ | refine Plus.alloc ?_ _ | refine Plus.plus ?_ _ | refine Plus.drew ?_ | refine Plus.drewN ?_ _))⟩
set_option maxRecDepth 100000 in
set_option maxHeartbeats 4000000 in
theorem arith_BB {op : ByteArray} {ka pa qa : Int} {ga : Bool} {Aa Ca : Option Addr} {na ca ma da : Nat} {ra : Int} {kb pb qb : Int} {gb : Bool} {Ab Cb : Option Addr} {nb cb mb db : Nat} {rb : Int} {za : Int} {zb : Int} (w : World) (_hL : Hid (Lai w)) (hxa : Hid (NV w (Value.agg #[.int .i64 ka, .int .i64 pa, .int .i64 qa, .bool ga, .slice Aa na ca, .slice Ca ma da, .int .i64 ra]) (.big za))) (hxb : Hid (NV w (Value.agg #[.int .i64 kb, .int .i64 pb, .int .i64 qb, .bool gb, .slice Ab nb cb, .slice Cb mb db, .int .i64 rb]) (.big zb))) {F : Value → Int → World → Prop} (hS : Stab F) (HB : ∀ (g1 g2 : Bool) (A1 A2 : Option Addr) (xs1 xs2 : List Nat) (n1 c1 n2 c2 : Nat) (w1 : World), Plus w w1 → BgV g1 A1 xs1 n1 c1 za w1 → BgV g2 A2 xs2 n2 c2 zb w1 → Calls Tryz.prog 91 #[.string op, .agg #[.bool g1, .slice A1 n1 c1], .agg #[.bool g2, .slice A2 n2 c2]] w1 (RetF F w1)) : Calls Tryz.prog 139 #[.string op, Value.agg #[.int .i64 ka, .int .i64 pa, .int .i64 qa, .bool ga, .slice Aa na ca, .slice Ca ma da, .int .i64 ra], Value.agg #[.int .i64 kb, .int .i64 pb, .int .i64 qb, .bool gb, .slice Ab nb cb, .slice Cb mb db, .int .i64 rb]] w (RetF F w) := by
  go_enter Tryz.func139, Tryz.ntmps139
  go_wp2_with (first | (go_at_call 212; (with_reducible refine (operands_BB _ (Lib.hid (_hL.out.plus (by repeat' (first | exact Plus.refl _ | refine Plus.alloc ?_ _ | refine Plus.plus ?_ _ | refine Plus.drew ?_ | refine Plus.drewN ?_ _)))) (Lib.hid (hxa.out.plus (by repeat' (first | exact Plus.refl _ | refine Plus.alloc ?_ _ | refine Plus.plus ?_ _ | refine Plus.drew ?_ | refine Plus.drewN ?_ _)))) (Lib.hid (hxb.out.plus (by repeat' (first | exact Plus.refl _ | refine Plus.alloc ?_ _ | refine Plus.plus ?_ _ | refine Plus.drew ?_ | refine Plus.drewN ?_ _))))).mono ?_); rintro e w1 ⟨ga1, Aa1, xsa1, na1, ca1, gb1, Ab1, xsb1, nb1, cb1, rfl, hBa, hBb, ⟨y1, rfl⟩⟩; have HBa := Lib.hid hBa; clear hBa; have HBb := Lib.hid hBb; clear hBb) | (go_at_call 91; (with_reducible refine (HB _ _ _ _ xsa1 xsb1 _ _ _ _ _ (by repeat' (first | exact Plus.refl _ | refine Plus.alloc ?_ _ | refine Plus.plus ?_ _ | refine Plus.drew ?_ | refine Plus.drewN ?_ _)) (HBa.out.offs (by repeat (first | (refine Offp.of ?_; (repeat' (first | exact Offs.refl _ | refine Offs.plus ?_ _ | refine Offs.alloc ?_ _ | exact Offs.allocN (Offs.refl _) (nuV _ _ _ _ _ _ _ _ _ _ _ _) | refine Offs.allocN ?_ (nuV _ _ _ _ _ _ _ _ _ _ _ _) | refine Offs.allocN ?_ (nuB _ _ _ _ _) | refine Offs.allocN ?_ (nuN _ _ _) | refine Offs.drew ?_ | refine Offs.drewL ?_ | refine Offs.drewR ?_)); done) | refine Offp.plusR ?_ _ | refine Offp.allocR ?_ _ | refine Offp.drewR ?_))) (HBb.out.offs (by repeat (first | (refine Offp.of ?_; (repeat' (first | exact Offs.refl _ | refine Offs.plus ?_ _ | refine Offs.alloc ?_ _ | exact Offs.allocN (Offs.refl _) (nuV _ _ _ _ _ _ _ _ _ _ _ _) | refine Offs.allocN ?_ (nuV _ _ _ _ _ _ _ _ _ _ _ _) | refine Offs.allocN ?_ (nuB _ _ _ _ _) | refine Offs.allocN ?_ (nuN _ _ _) | refine Offs.drew ?_ | refine Offs.drewL ?_ | refine Offs.drewR ?_)); done) | refine Offp.plusR ?_ _ | refine Offp.allocR ?_ _ | refine Offp.drewR ?_)))).mono ?_); rintro e w1 ⟨k9, p9, q9, g9, A9, C9, n9, c9, m9, d9, r9, s9, rfl, hF, ⟨x9, rfl⟩⟩; have HF := Lib.hid hF; clear hF))
  go_returns
  exact ⟨_, _, _, _, _, _, _, _, _, _, _, _, rfl, hS _ _ _ _ HF.out (by repeat (first | (refine Offp.of ?_; (repeat' (first | exact Offs.refl _ | refine Offs.plus ?_ _ | refine Offs.alloc ?_ _ | exact Offs.allocN (Offs.refl _) (nuV _ _ _ _ _ _ _ _ _ _ _ _) | refine Offs.allocN ?_ (nuV _ _ _ _ _ _ _ _ _ _ _ _) | refine Offs.allocN ?_ (nuB _ _ _ _ _) | refine Offs.allocN ?_ (nuN _ _ _) | refine Offs.drew ?_ | refine Offs.drewL ?_ | refine Offs.drewR ?_)); done) | refine Offp.plusR ?_ _ | refine Offp.allocR ?_ _ | refine Offp.drewR ?_)), (by repeat' (first | exact Plus.refl _ | refine Plus.alloc ?_ _ | refine Plus.plus ?_ _ | refine Plus.drew ?_ | refine Plus.drewN ?_ _))⟩
end Go.Proofs.YtakahpbondaidaaGreatDoor
namespace Go.Proofs.YtakahpbondaidaaGreatDoor
open Go.RowKit

theorem concat_n {g : Nat} {D1 D2 : Option Addr} {xs ys : List Nat} {m1 k1 m2 k2 n : Nat} (hn : n = m1 + m2) (w : World) (h1 : Ar .u16 65536 w D1 xs m1 k1) (h2 : Ar .u16 65536 w D2 ys m2 k2) (l1 : m1 ≤ 4096) (l2 : m2 ≤ 4096)
    (c0 : w.cell? ⟨g, 0, none⟩ = some (.slice D1 m1 k1)) (c1 : w.cell? ⟨g, 1, none⟩ = some (.slice D2 m2 k2)) :
    Calls Tryz.prog 248 #[.slice (some ⟨g, 0, none⟩) 2 2] w fun e w' => ∃ (E : Option Addr) (c : Nat), e = .returned (.slice E n c) ∧ Ar .u16 65536 w' E (xs ++ ys) n c ∧ Plus w w' := by
  refine (concat_c g D1 D2 xs ys m1 k1 m2 k2 w (Lib.hid h1) (Lib.hid h2) l1 l2 c0 c1).mono ?_
  rintro e w' ⟨v, rfl, ho, hp⟩
  obtain ⟨E, c, rfl, q1, q2, q3⟩ := rd_of_own ho
  have e : (xs ++ ys).length = n := by rw [List.length_append, ← h1.len, ← h2.len, hn]
  rw [e] at q1 ⊢
  exact ⟨E, c, rfl, ⟨q3, e.symm, q1, q2, fun x hx => (List.mem_append.1 hx).elim (h1.bd x) (h2.bd x)⟩, hp⟩
theorem cell_pair {W : World} {a b : Value} {t g : Nat} (hg : g = W.heap.size) : (W.alloc (.cells #[a, b] t)).cell? ⟨g, 0, none⟩ = some a ∧ (W.alloc (.cells #[a, b] t)).cell? ⟨g, 1, none⟩ = some b := by
  have h := news_at' W [a, b] t g hg
  exact ⟨h 0 a rfl, h 1 b rfl⟩
set_option maxRecDepth 100000 in
set_option maxHeartbeats 4000000 in
theorem joined_y {ka pa qa : Int} {ga : Bool} {Aa Ca : Option Addr} {na ca ma da : Nat} {ra : Int} {kb pb qb : Int} {gb : Bool} {Ab Cb : Option Addr} {nb cb mb db : Nat} {rb : Int} {xa : JV} {tsa : List Nat} {ma4 : Nat} {xb : JV} {tsb : List Nat} {mb4 : Nat} {n : Nat} (w : World) (hL : Hid (Lai w)) (hxa : Hid (NV w (Value.agg #[.int .i64 ka, .int .i64 pa, .int .i64 qa, .bool ga, .slice Aa na ca, .slice Ca ma da, .int .i64 ra]) xa)) (hta : Hid (txtJ xa = ⟨tsa, 0⟩ ∧ ma4 = tsa.length)) (hxb : Hid (NV w (Value.agg #[.int .i64 kb, .int .i64 pb, .int .i64 qb, .bool gb, .slice Ab nb cb, .slice Cb mb db, .int .i64 rb]) xb)) (htb : Hid (txtJ xb = ⟨tsb, 0⟩ ∧ mb4 = tsb.length)) (l1 : ma4 ≤ 4096) (l2 : mb4 ≤ 4096) (hn : Hid (n = ma4 + mb4)) (hn4 : n ≤ 4096) (hl : ¬ ((4096 : Int) < (ma4 : Int) + mb4)) : Calls Tryz.prog 211 #[Value.agg #[.int .i64 ka, .int .i64 pa, .int .i64 qa, .bool ga, .slice Aa na ca, .slice Ca ma da, .int .i64 ra], Value.agg #[.int .i64 kb, .int .i64 pb, .int .i64 qb, .bool gb, .slice Ab nb cb, .slice Cb mb db, .int .i64 rb]] w (RetF (FJ (.text (tsa ++ tsb)) 0) w) := by
  go_enter Tryz.func211, Tryz.ntmps211
  have hlen : (tsa ++ tsb).length ≤ 4096 := by rw [List.length_append, ← hta.out.2, ← htb.out.2]; omega
  go_wp2_with (first | (go_at_call_of 19 (Value.agg #[.int .i64 ka, .int .i64 pa, .int .i64 qa, .bool ga, .slice Aa na ca, .slice Ca ma da, .int .i64 ra]); (with_reducible refine (ctext_v hta _ (hL.out.plus (by repeat' (first | exact Plus.refl _ | refine Plus.alloc ?_ _ | refine Plus.plus ?_ _ | refine Plus.drew ?_ | refine Plus.drewN ?_ _))) (hxa.out.plus (by repeat' (first | exact Plus.refl _ | refine Plus.alloc ?_ _ | refine Plus.plus ?_ _ | refine Plus.drew ?_ | refine Plus.drewN ?_ _))) (hxa.out.vld.plus (by repeat' (first | exact Plus.refl _ | refine Plus.alloc ?_ _ | refine Plus.plus ?_ _ | refine Plus.drew ?_ | refine Plus.drewN ?_ _)))).mono ?_); rintro e w1 ⟨Da, kka, rfl, hDa, ⟨ya, rfl⟩⟩; have HDa := Lib.hid hDa; clear hDa) | (go_at_call_of 19 (Value.agg #[.int .i64 kb, .int .i64 pb, .int .i64 qb, .bool gb, .slice Ab nb cb, .slice Cb mb db, .int .i64 rb]); (with_reducible refine (ctext_v htb _ (hL.out.plus (by repeat' (first | exact Plus.refl _ | refine Plus.alloc ?_ _ | refine Plus.plus ?_ _ | refine Plus.drew ?_ | refine Plus.drewN ?_ _))) (hxb.out.plus (by repeat' (first | exact Plus.refl _ | refine Plus.alloc ?_ _ | refine Plus.plus ?_ _ | refine Plus.drew ?_ | refine Plus.drewN ?_ _))) (hxb.out.vld.plus (by repeat' (first | exact Plus.refl _ | refine Plus.alloc ?_ _ | refine Plus.plus ?_ _ | refine Plus.drew ?_ | refine Plus.drewN ?_ _)))).mono ?_); rintro e w1 ⟨Db, kkb, rfl, hDb, ⟨yb, rfl⟩⟩; have HDb := Lib.hid hDb; clear hDb) | (go_at_call 248; (with_reducible refine (concat_n hn.out _ (HDa.out.plus (by repeat' (first | exact Plus.refl _ | refine Plus.alloc ?_ _ | refine Plus.plus ?_ _ | refine Plus.drew ?_ | refine Plus.drewN ?_ _))) (HDb.out.plus (by repeat' (first | exact Plus.refl _ | refine Plus.alloc ?_ _ | refine Plus.plus ?_ _ | refine Plus.drew ?_ | refine Plus.drewN ?_ _))) l1 l2 (cell_pair (by first | rfl | (simp [size_plus, World.size_alloc]; done) | (simp [size_plus, World.size_alloc]; omega))).1 (cell_pair (by first | rfl | (simp [size_plus, World.size_alloc]; done) | (simp [size_plus, World.size_alloc]; omega))).2).mono ?_); rintro e w1 ⟨E, ke, rfl, hE, ⟨y3, rfl⟩⟩; have HE := Lib.hid hE; clear hE) | (go_at_call 247; (with_reducible refine (cstr_y _ (HE.out.plus (by repeat' (first | exact Plus.refl _ | refine Plus.alloc ?_ _ | refine Plus.plus ?_ _ | refine Plus.drew ?_ | refine Plus.drewN ?_ _))) hn4).mono ?_); rintro e w1 ⟨G, kg, rfl, hG, ⟨y4, rfl⟩⟩; have HG := Lib.hid hG; clear hG))
  go_returns
  exact ⟨_, _, _, _, _, _, _, _, _, _, _, _, rfl, ⟨(nv_text HG.out hlen).offs (by repeat (first | (refine Offp.of ?_; (repeat' (first | exact Offs.refl _ | refine Offs.plus ?_ _ | refine Offs.alloc ?_ _ | exact Offs.allocN (Offs.refl _) (nuV _ _ _ _ _ _ _ _ _ _ _ _) | refine Offs.allocN ?_ (nuV _ _ _ _ _ _ _ _ _ _ _ _) | refine Offs.allocN ?_ (nuB _ _ _ _ _) | refine Offs.allocN ?_ (nuN _ _ _) | refine Offs.drew ?_ | refine Offs.drewL ?_ | refine Offs.drewR ?_)); done) | refine Offp.plusR ?_ _ | refine Offp.allocR ?_ _ | refine Offp.drewR ?_)), rfl⟩, (by repeat' (first | exact Plus.refl _ | refine Plus.alloc ?_ _ | refine Plus.plus ?_ _ | refine Plus.drew ?_ | refine Plus.drewN ?_ _))⟩
set_option maxRecDepth 100000 in
set_option maxHeartbeats 4000000 in
theorem plus_t {ka pa qa : Int} {ga : Bool} {Aa Ca : Option Addr} {na ca ma da : Nat} {ra : Int} {kb pb qb : Int} {gb : Bool} {Ab Cb : Option Addr} {nb cb mb db : Nat} {rb : Int} (w : World) {F : Value → Int → World → Prop} (hS : Stab F) (he : ((ka == 5) || (kb == 5)) = true) (H : ∀ w1, Plus w w1 → Calls Tryz.prog 211 #[Value.agg #[.int .i64 ka, .int .i64 pa, .int .i64 qa, .bool ga, .slice Aa na ca, .slice Ca ma da, .int .i64 ra], Value.agg #[.int .i64 kb, .int .i64 pb, .int .i64 qb, .bool gb, .slice Ab nb cb, .slice Cb mb db, .int .i64 rb]] w1 (RetF F w1)) : Calls Tryz.prog 138 #[Value.agg #[.int .i64 ka, .int .i64 pa, .int .i64 qa, .bool ga, .slice Aa na ca, .slice Ca ma da, .int .i64 ra], Value.agg #[.int .i64 kb, .int .i64 pb, .int .i64 qb, .bool gb, .slice Ab nb cb, .slice Cb mb db, .int .i64 rb]] w (RetF F w) := by
  go_enter Tryz.func138, Tryz.ntmps138
  go_wp2_with (first | (go_at_call 210; (with_reducible refine (either_v he _).mono ?_); rintro e w1 ⟨rfl, ⟨x2, rfl⟩⟩) | (go_at_call 211; (with_reducible refine (H _ (by repeat' (first | exact Plus.refl _ | refine Plus.alloc ?_ _ | refine Plus.plus ?_ _ | refine Plus.drew ?_ | refine Plus.drewN ?_ _))).mono ?_); rintro e w1 ⟨k9, p9, q9, g9, A9, C9, n9, c9, m9, d9, r9, s9, rfl, hF, ⟨x9, rfl⟩⟩; have HF := Lib.hid hF; clear hF))
  go_returns
  exact ⟨_, _, _, _, _, _, _, _, _, _, _, _, rfl, hS _ _ _ _ HF.out (by repeat (first | (refine Offp.of ?_; (repeat' (first | exact Offs.refl _ | refine Offs.plus ?_ _ | refine Offs.alloc ?_ _ | exact Offs.allocN (Offs.refl _) (nuV _ _ _ _ _ _ _ _ _ _ _ _) | refine Offs.allocN ?_ (nuV _ _ _ _ _ _ _ _ _ _ _ _) | refine Offs.allocN ?_ (nuB _ _ _ _ _) | refine Offs.allocN ?_ (nuN _ _ _) | refine Offs.drew ?_ | refine Offs.drewL ?_ | refine Offs.drewR ?_)); done) | refine Offp.plusR ?_ _ | refine Offp.allocR ?_ _ | refine Offp.drewR ?_)), (by repeat' (first | exact Plus.refl _ | refine Plus.alloc ?_ _ | refine Plus.plus ?_ _ | refine Plus.drew ?_ | refine Plus.drewN ?_ _))⟩
set_option maxRecDepth 100000 in
set_option maxHeartbeats 4000000 in
theorem plus_a {ka pa qa : Int} {ga : Bool} {Aa Ca : Option Addr} {na ca ma da : Nat} {ra : Int} {kb pb qb : Int} {gb : Bool} {Ab Cb : Option Addr} {nb cb mb db : Nat} {rb : Int} (w : World) {F : Value → Int → World → Prop} (hS : Stab F) (he : ((ka == 5) || (kb == 5)) = false) (H : ∀ w1, Plus w w1 → Calls Tryz.prog 139 #[.string ⟨#[43]⟩, Value.agg #[.int .i64 ka, .int .i64 pa, .int .i64 qa, .bool ga, .slice Aa na ca, .slice Ca ma da, .int .i64 ra], Value.agg #[.int .i64 kb, .int .i64 pb, .int .i64 qb, .bool gb, .slice Ab nb cb, .slice Cb mb db, .int .i64 rb]] w1 (RetF F w1)) : Calls Tryz.prog 138 #[Value.agg #[.int .i64 ka, .int .i64 pa, .int .i64 qa, .bool ga, .slice Aa na ca, .slice Ca ma da, .int .i64 ra], Value.agg #[.int .i64 kb, .int .i64 pb, .int .i64 qb, .bool gb, .slice Ab nb cb, .slice Cb mb db, .int .i64 rb]] w (RetF F w) := by
  go_enter Tryz.func138, Tryz.ntmps138
  go_wp2_with (first | (go_at_call 210; (with_reducible refine (either_v he _).mono ?_); rintro e w1 ⟨rfl, ⟨x2, rfl⟩⟩) | (go_at_call 139; (with_reducible refine (H _ (by repeat' (first | exact Plus.refl _ | refine Plus.alloc ?_ _ | refine Plus.plus ?_ _ | refine Plus.drew ?_ | refine Plus.drewN ?_ _))).mono ?_); rintro e w1 ⟨k9, p9, q9, g9, A9, C9, n9, c9, m9, d9, r9, s9, rfl, hF, ⟨x9, rfl⟩⟩; have HF := Lib.hid hF; clear hF))
  go_returns
  exact ⟨_, _, _, _, _, _, _, _, _, _, _, _, rfl, hS _ _ _ _ HF.out (by repeat (first | (refine Offp.of ?_; (repeat' (first | exact Offs.refl _ | refine Offs.plus ?_ _ | refine Offs.alloc ?_ _ | exact Offs.allocN (Offs.refl _) (nuV _ _ _ _ _ _ _ _ _ _ _ _) | refine Offs.allocN ?_ (nuV _ _ _ _ _ _ _ _ _ _ _ _) | refine Offs.allocN ?_ (nuB _ _ _ _ _) | refine Offs.allocN ?_ (nuN _ _ _) | refine Offs.drew ?_ | refine Offs.drewL ?_ | refine Offs.drewR ?_)); done) | refine Offp.plusR ?_ _ | refine Offp.allocR ?_ _ | refine Offp.drewR ?_)), (by repeat' (first | exact Plus.refl _ | refine Plus.alloc ?_ _ | refine Plus.plus ?_ _ | refine Plus.drew ?_ | refine Plus.drewN ?_ _))⟩
end Go.Proofs.YtakahpbondaidaaGreatDoor
namespace Go.Proofs.YtakahpbondaidaaGreatDoor
open Go.RowKit

set_option maxRecDepth 100000 in
set_option maxHeartbeats 4000000 in
theorem comp_i {ga : Bool} {Aa : Option Addr} {na ca : Nat} {q : Int} (w : World) : Calls Tryz.prog 253 #[.agg #[.bool ga, .slice Aa na ca], .agg #[.int .i64 3, .int .i64 q]] w (fun e w' => e = .returned (.int .i64 (-1)) ∧ Plus w w') := by
  go_enter Tryz.func253, Tryz.ntmps253
  go_wp2_with fail
  go_returns
  exact ⟨rfl, (by repeat' (first | exact Plus.refl _ | refine Plus.alloc ?_ _ | refine Plus.plus ?_ _ | refine Plus.drew ?_ | refine Plus.drewN ?_ _))⟩
set_option maxRecDepth 100000 in
set_option maxHeartbeats 4000000 in
theorem comp_m {ga : Bool} {Aa : Option Addr} {na ca : Nat} {q : Int} (w : World) : Calls Tryz.prog 253 #[.agg #[.bool ga, .slice Aa na ca], .agg #[.int .i64 4, .int .i64 q]] w (fun e w' => e = .returned (.int .i64 1) ∧ Plus w w') := by
  go_enter Tryz.func253, Tryz.ntmps253
  go_wp2_with fail
  go_returns
  exact ⟨rfl, (by repeat' (first | exact Plus.refl _ | refine Plus.alloc ?_ _ | refine Plus.plus ?_ _ | refine Plus.drew ?_ | refine Plus.drewN ?_ _))⟩
theorem bcmp_v {ga gb : Bool} {Aa Ab : Option Addr} {xsa xsb : List Nat} {na ca nb cb : Nat} {za zb v : Int} (h : Hid (Bg.cmpZ za zb = v)) (w : World) (ha : BgV ga Aa xsa na ca za w) (hb : BgV gb Ab xsb nb cb zb w) : Calls Tryz.prog 129 #[.agg #[.bool ga, .slice Aa na ca], .agg #[.bool gb, .slice Ab nb cb]] w (fun e w' => e = .returned (.int .i64 v) ∧ Plus w w') :=
  Bg.cmp_n (Lib.hid ha.2.1) (Lib.hid hb.2.1) h w ha.2.2 hb.2.2
theorem bof_q {q : Int} {pb : Bool} {us : List Nat} (h : Hid (Bg.OfN q q pb us)) (w : World) : Calls Tryz.prog 51 #[.int .i64 q] w fun e w' => ∃ (A1 : Option Addr) (c1 : Nat), e = .returned (.agg #[.bool pb, .slice A1 us.length c1]) ∧ BgV pb A1 us us.length c1 q w' ∧ Plus w w' := by
  refine (Bg.of_n h w).mono ?_
  rintro e w' ⟨A1, c1, rfl, hA, hp⟩
  exact ⟨A1, c1, rfl, BgV.mk3 h.out.1 hA, hp⟩
theorem ofN_q {q : Int} (h1 : -9223372036854775808 ≤ q) (h2 : q ≤ 9223372036854775807) : Bg.OfN q q (decide (q < 0)) (Bg.dig q.natAbs) := ⟨Bg.Nm.mk' (by rw [Bg.B_eq]; simp; omega), rfl, h1, h2⟩
set_option maxRecDepth 100000 in
set_option maxHeartbeats 4000000 in
theorem comp_f {ga : Bool} {Aa : Option Addr} {xsa : List Nat} {na ca : Nat} {za p q : Int} {v : Int} {pb : Bool} {us : List Nat} (w : World) (h1 : Hid (BgV ga Aa xsa na ca za w)) (hO : Hid (Bg.OfN q q pb us)) (p3 : (p == 3) = false) (p4 : (p == 4) = false) (hv : Hid (Bg.cmpZ za q = v)) : Calls Tryz.prog 253 #[.agg #[.bool ga, .slice Aa na ca], .agg #[.int .i64 p, .int .i64 q]] w (fun e w' => e = .returned (.int .i64 v) ∧ Plus w w') := by
  go_enter Tryz.func253, Tryz.ntmps253
  go_wp2_with fail
  go_region_with (first | (go_at_call 51; (with_reducible refine (bof_q hO _).mono ?_); rintro e w1 ⟨A2, c2, rfl, hA, ⟨x1, rfl⟩⟩; have HA := Lib.hid hA; clear hA) | (go_at_call 129; (with_reducible refine (bcmp_v hv _ (h1.out.offs (by repeat (first | (refine Offp.of ?_; (repeat' (first | exact Offs.refl _ | refine Offs.plus ?_ _ | refine Offs.alloc ?_ _ | exact Offs.allocN (Offs.refl _) (nuV _ _ _ _ _ _ _ _ _ _ _ _) | refine Offs.allocN ?_ (nuV _ _ _ _ _ _ _ _ _ _ _ _) | refine Offs.allocN ?_ (nuB _ _ _ _ _) | refine Offs.allocN ?_ (nuN _ _ _) | refine Offs.drew ?_ | refine Offs.drewL ?_ | refine Offs.drewR ?_)); done) | refine Offp.plusR ?_ _ | refine Offp.allocR ?_ _ | refine Offp.drewR ?_))) (HA.out.offs (by repeat (first | (refine Offp.of ?_; (repeat' (first | exact Offs.refl _ | refine Offs.plus ?_ _ | refine Offs.alloc ?_ _ | exact Offs.allocN (Offs.refl _) (nuV _ _ _ _ _ _ _ _ _ _ _ _) | refine Offs.allocN ?_ (nuV _ _ _ _ _ _ _ _ _ _ _ _) | refine Offs.allocN ?_ (nuB _ _ _ _ _) | refine Offs.allocN ?_ (nuN _ _ _) | refine Offs.drew ?_ | refine Offs.drewL ?_ | refine Offs.drewR ?_)); done) | refine Offp.plusR ?_ _ | refine Offp.allocR ?_ _ | refine Offp.drewR ?_)))).mono ?_); rintro e w1 ⟨rfl, ⟨x2, rfl⟩⟩))
  all_goals
    go_wp2_with fail
    go_returns
    exact ⟨rfl, (by repeat' (first | exact Plus.refl _ | refine Plus.alloc ?_ _ | refine Plus.plus ?_ _ | refine Plus.drew ?_ | refine Plus.drewN ?_ _))⟩
def cmpBN (z p q : Int) : Int := if p = 3 then -1 else if p = 4 then 1 else Bg.cmpZ z q
theorem comp_v {ga : Bool} {Aa : Option Addr} {xsa : List Nat} {na ca : Nat} {za p q : Int} {v : Int} (hv : Hid (cmpBN za p q = v)) (hq : Hid (-9007199254740991 ≤ q ∧ q ≤ 9007199254740991)) (w : World) (h1 : BgV ga Aa xsa na ca za w) : Calls Tryz.prog 253 #[.agg #[.bool ga, .slice Aa na ca], .agg #[.int .i64 p, .int .i64 q]] w (fun e w' => e = .returned (.int .i64 v) ∧ Plus w w') := by
  have h := hv.out
  unfold cmpBN at h
  by_cases h3 : p = 3
  · subst h3
    rw [if_pos rfl] at h
    subst h
    exact comp_i w
  · rw [if_neg h3] at h
    by_cases h4 : p = 4
    · subst h4
      rw [if_pos rfl] at h
      subst h
      exact comp_m w
    · rw [if_neg h4] at h
      exact comp_f w (Lib.hid h1) (Lib.hid (ofN_q (by have := hq.out; omega) (by have := hq.out; omega))) (beq_f h3) (beq_f h4) (Lib.hid h)
set_option maxRecDepth 100000 in
set_option maxHeartbeats 4000000 in
theorem less_BN {g1 : Bool} {A1 C1 : Option Addr} {xs1 : List Nat} {n1 c1 d1 : Nat} {z1 : Int} {p2 q2 : Int} {A2 C2 : Option Addr} {c2 d2 : Nat} (w : World) (h1 : Hid (BgV g1 A1 xs1 n1 c1 z1 w)) {v : Int} {b : Bool} (hq : Hid (-9007199254740991 ≤ q2 ∧ q2 ≤ 9007199254740991)) (hb : Hid (cmpBN z1 p2 q2 = v)) (hv : decide (v < 0) = b) : Calls Tryz.prog 216 #[Value.agg #[.int .i64 4, .int .i64 0, .int .i64 0, .bool g1, .slice A1 n1 c1, .slice C1 0 d1, .int .i64 0], Value.agg #[.int .i64 3, .int .i64 p2, .int .i64 q2, .bool false, .slice A2 0 c2, .slice C2 0 d2, .int .i64 0]] w (fun e w' => e = .returned (.bool b) ∧ Plus w w') := by
  go_enter Tryz.func216, Tryz.ntmps216
  go_wp2_with (first | (go_at_call_of 250 (Value.int IntKind.i64 5); (with_reducible refine (both_v (b := false) (by decide) _).mono ?_); rintro e w1 ⟨rfl, ⟨x5, rfl⟩⟩) | (go_at_call_of 250 (Value.int IntKind.i64 3); (with_reducible refine (both_v (b := false) (by decide) _).mono ?_); rintro e w1 ⟨rfl, ⟨x3, rfl⟩⟩) | (go_at_call_of 250 (Value.int IntKind.i64 4); (with_reducible refine (both_v (b := false) (by decide) _).mono ?_); rintro e w1 ⟨rfl, ⟨x4, rfl⟩⟩) | (go_at_call 253; (with_reducible refine (comp_v hb hq _ (h1.out.offs (by repeat (first | (refine Offp.of ?_; (repeat' (first | exact Offs.refl _ | refine Offs.plus ?_ _ | refine Offs.alloc ?_ _ | exact Offs.allocN (Offs.refl _) (nuV _ _ _ _ _ _ _ _ _ _ _ _) | refine Offs.allocN ?_ (nuV _ _ _ _ _ _ _ _ _ _ _ _) | refine Offs.allocN ?_ (nuB _ _ _ _ _) | refine Offs.allocN ?_ (nuN _ _ _) | refine Offs.drew ?_ | refine Offs.drewL ?_ | refine Offs.drewR ?_)); done) | refine Offp.plusR ?_ _ | refine Offp.allocR ?_ _ | refine Offp.drewR ?_)))).mono ?_); rintro e w1 ⟨rfl, ⟨y1, rfl⟩⟩))
  go_returns
  exact ⟨rfl, (by repeat' (first | exact Plus.refl _ | refine Plus.alloc ?_ _ | refine Plus.plus ?_ _ | refine Plus.drew ?_ | refine Plus.drewN ?_ _))⟩
set_option maxRecDepth 100000 in
set_option maxHeartbeats 4000000 in
theorem less_NB {p1 q1 : Int} {A1 C1 : Option Addr} {c1 d1 : Nat} {g2 : Bool} {A2 C2 : Option Addr} {xs2 : List Nat} {n2 c2 d2 : Nat} {z2 : Int} (w : World) (h2 : Hid (BgV g2 A2 xs2 n2 c2 z2 w)) {v : Int} {b : Bool} (hq : Hid (-9007199254740991 ≤ q1 ∧ q1 ≤ 9007199254740991)) (hb : Hid (cmpBN z2 p1 q1 = v)) (hv : decide (0 < v) = b) : Calls Tryz.prog 216 #[Value.agg #[.int .i64 3, .int .i64 p1, .int .i64 q1, .bool false, .slice A1 0 c1, .slice C1 0 d1, .int .i64 0], Value.agg #[.int .i64 4, .int .i64 0, .int .i64 0, .bool g2, .slice A2 n2 c2, .slice C2 0 d2, .int .i64 0]] w (fun e w' => e = .returned (.bool b) ∧ Plus w w') := by
  go_enter Tryz.func216, Tryz.ntmps216
  go_wp2_with (first | (go_at_call_of 250 (Value.int IntKind.i64 5); (with_reducible refine (both_v (b := false) (by decide) _).mono ?_); rintro e w1 ⟨rfl, ⟨x5, rfl⟩⟩) | (go_at_call_of 250 (Value.int IntKind.i64 3); (with_reducible refine (both_v (b := false) (by decide) _).mono ?_); rintro e w1 ⟨rfl, ⟨x3, rfl⟩⟩) | (go_at_call_of 250 (Value.int IntKind.i64 4); (with_reducible refine (both_v (b := false) (by decide) _).mono ?_); rintro e w1 ⟨rfl, ⟨x4, rfl⟩⟩) | (go_at_call 253; (with_reducible refine (comp_v hb hq _ (h2.out.offs (by repeat (first | (refine Offp.of ?_; (repeat' (first | exact Offs.refl _ | refine Offs.plus ?_ _ | refine Offs.alloc ?_ _ | exact Offs.allocN (Offs.refl _) (nuV _ _ _ _ _ _ _ _ _ _ _ _) | refine Offs.allocN ?_ (nuV _ _ _ _ _ _ _ _ _ _ _ _) | refine Offs.allocN ?_ (nuB _ _ _ _ _) | refine Offs.allocN ?_ (nuN _ _ _) | refine Offs.drew ?_ | refine Offs.drewL ?_ | refine Offs.drewR ?_)); done) | refine Offp.plusR ?_ _ | refine Offp.allocR ?_ _ | refine Offp.drewR ?_)))).mono ?_); rintro e w1 ⟨rfl, ⟨y1, rfl⟩⟩))
  go_returns
  exact ⟨rfl, (by repeat' (first | exact Plus.refl _ | refine Plus.alloc ?_ _ | refine Plus.plus ?_ _ | refine Plus.drew ?_ | refine Plus.drewN ?_ _))⟩
end Go.Proofs.YtakahpbondaidaaGreatDoor
namespace Go.Proofs.YtakahpbondaidaaGreatDoor
open Go.RowKit

set_option maxRecDepth 100000 in
set_option maxHeartbeats 4000000 in
theorem comp_BN_1 {ka pa qa : Int} {ga : Bool} {Aa Ca : Option Addr} {na ca ma da : Nat} {ra : Int} {kb pb qb : Int} {gb : Bool} {Ab Cb : Option Addr} {nb cb mb db : Nat} {rb : Int} {za : Int} {xb : JV} {ab bb : Int} (w : World) (hL : Hid (Lai w)) (hxa : Hid (NV w (Value.agg #[.int .i64 ka, .int .i64 pa, .int .i64 qa, .bool ga, .slice Aa na ca, .slice Ca ma da, .int .i64 ra]) (.big za))) (hxb : Hid (NV w (Value.agg #[.int .i64 kb, .int .i64 pb, .int .i64 qb, .bool gb, .slice Ab nb cb, .slice Cb mb db, .int .i64 rb]) xb)) (hJb : Hid (numJ xb = ⟨ab, bb, 0⟩)) (nbb : ∀ z, xb ≠ .big z) (hb5 : ((ka == 5) && (kb == 5)) = false) (h4 : ((ka == 4) || (kb == 4)) = true) (h5 : ((ka == 5) || (kb == 5)) = false) : Calls Tryz.prog 214 #[Value.agg #[.int .i64 ka, .int .i64 pa, .int .i64 qa, .bool ga, .slice Aa na ca, .slice Ca ma da, .int .i64 ra], Value.agg #[.int .i64 kb, .int .i64 pb, .int .i64 qb, .bool gb, .slice Ab nb cb, .slice Cb mb db, .int .i64 rb]] w (fun e w' => ∃ (ga1 : Bool) (Aa1 : Option Addr) (xsa1 : List Nat) (na1 ca1 : Nat), e = .returned (.tuple #[Value.agg #[.int .i64 4, .int .i64 0, .int .i64 0, .bool ga1, .slice Aa1 na1 ca1, .slice none 0 0, .int .i64 0], Value.agg #[.int .i64 3, .int .i64 ab, .int .i64 bb, .bool false, .slice none 0 0, .slice none 0 0, .int .i64 0], .int .i64 0]) ∧ BgV ga1 Aa1 xsa1 na1 ca1 za w' ∧ Plus w w') := by
  go_enter Tryz.func214, Tryz.ntmps214
  go_wp2_with (first | (go_at_call 250; (with_reducible refine (both_v hb5 _).mono ?_); rintro e w1 ⟨rfl, ⟨b5, rfl⟩⟩) | (go_at_call_of 210 (Value.int IntKind.i64 4); (with_reducible refine (either_v h4 _).mono ?_); rintro e w1 ⟨rfl, ⟨e4, rfl⟩⟩) | (go_at_call_of 210 (Value.int IntKind.i64 5); (with_reducible refine (either_v h5 _).mono ?_); rintro e w1 ⟨rfl, ⟨e5, rfl⟩⟩) | (go_at_call 249; (with_reducible refine (numerics_BN _ (Lib.hid (hL.out.plus (by repeat' (first | exact Plus.refl _ | refine Plus.alloc ?_ _ | refine Plus.plus ?_ _ | refine Plus.drew ?_ | refine Plus.drewN ?_ _)))) (Lib.hid (hxa.out.plus (by repeat' (first | exact Plus.refl _ | refine Plus.alloc ?_ _ | refine Plus.plus ?_ _ | refine Plus.drew ?_ | refine Plus.drewN ?_ _)))) (Lib.hid (hxb.out.plus (by repeat' (first | exact Plus.refl _ | refine Plus.alloc ?_ _ | refine Plus.plus ?_ _ | refine Plus.drew ?_ | refine Plus.drewN ?_ _)))) hJb nbb).mono ?_); rintro e w1 ⟨ga1, Aa1, xsa1, na1, ca1, rfl, hBa, ⟨y1, rfl⟩⟩; have HBa := Lib.hid hBa; clear hBa))
  go_returns
  exact ⟨ga1, Aa1, xsa1, na1, ca1, rfl, BgV.offs HBa.out (by repeat (first | (refine Offp.of ?_; (repeat' (first | exact Offs.refl _ | refine Offs.plus ?_ _ | refine Offs.alloc ?_ _ | exact Offs.allocN (Offs.refl _) (nuV _ _ _ _ _ _ _ _ _ _ _ _) | refine Offs.allocN ?_ (nuV _ _ _ _ _ _ _ _ _ _ _ _) | refine Offs.allocN ?_ (nuB _ _ _ _ _) | refine Offs.allocN ?_ (nuN _ _ _) | refine Offs.drew ?_ | refine Offs.drewL ?_ | refine Offs.drewR ?_)); done) | refine Offp.plusR ?_ _ | refine Offp.allocR ?_ _ | refine Offp.drewR ?_)), (by repeat' (first | exact Plus.refl _ | refine Plus.alloc ?_ _ | refine Plus.plus ?_ _ | refine Plus.drew ?_ | refine Plus.drewN ?_ _))⟩
end Go.Proofs.YtakahpbondaidaaGreatDoor
namespace Go.Proofs.YtakahpbondaidaaGreatDoor
open Go.RowKit

/-- How two values that came in are held against one another later. -/
def Lss (U V : Value) (w : World) (l1 l2 : Bool) : Prop := ∀ w1, Offp w w1 → Calls Tryz.prog 216 #[U, V] w1 (fun e w' => e = .returned (.bool l1) ∧ Plus w1 w') ∧ Calls Tryz.prog 216 #[V, U] w1 (fun e w' => e = .returned (.bool l2) ∧ Plus w1 w')
def CmpN (b2 b3 : Bool) (va vb : Value) (l1 l2 : Bool) (w : World) : Prop := ∀ w1, Plus w w1 → Calls Tryz.prog 214 #[va, vb] w1 fun e w' => ∃ (k2 p2 q2 : Int) (g2 : Bool) (A2 C2 : Option Addr) (n2 c2 m2 d2 : Nat) (r2 : Int) (k3 p3 q3 : Int) (g3 : Bool) (A3 C3 : Option Addr) (n3 c3 m3 d3 : Nat) (r3 : Int), e = .returned (.tuple #[Value.agg #[.int .i64 k2, .int .i64 p2, .int .i64 q2, .bool g2, .slice A2 n2 c2, .slice C2 m2 d2, .int .i64 r2], Value.agg #[.int .i64 k3, .int .i64 p3, .int .i64 q3, .bool g3, .slice A3 n3 c3, .slice C3 m3 d3, .int .i64 r3], .int .i64 0]) ∧ (p2 == 2) = b2 ∧ (p3 == 2) = b3 ∧ Lss (Value.agg #[.int .i64 k2, .int .i64 p2, .int .i64 q2, .bool g2, .slice A2 n2 c2, .slice C2 m2 d2, .int .i64 r2]) (Value.agg #[.int .i64 k3, .int .i64 p3, .int .i64 q3, .bool g3, .slice A3 n3 c3, .slice C3 m3 d3, .int .i64 r3]) w' l1 l2 ∧ Plus w1 w'
theorem CmpN.call {b2 b3 : Bool} {va vb : Value} {l1 l2 : Bool} {w : World} (h : CmpN b2 b3 va vb l1 l2 w) {w1 : World} (hp : Plus w w1) : Calls Tryz.prog 214 #[va, vb] w1 fun e w' => ∃ (k2 p2 q2 : Int) (g2 : Bool) (A2 C2 : Option Addr) (n2 c2 m2 d2 : Nat) (r2 : Int) (k3 p3 q3 : Int) (g3 : Bool) (A3 C3 : Option Addr) (n3 c3 m3 d3 : Nat) (r3 : Int), e = .returned (.tuple #[Value.agg #[.int .i64 k2, .int .i64 p2, .int .i64 q2, .bool g2, .slice A2 n2 c2, .slice C2 m2 d2, .int .i64 r2], Value.agg #[.int .i64 k3, .int .i64 p3, .int .i64 q3, .bool g3, .slice A3 n3 c3, .slice C3 m3 d3, .int .i64 r3], .int .i64 0]) ∧ (p2 == 2) = b2 ∧ (p3 == 2) = b3 ∧ Lss (Value.agg #[.int .i64 k2, .int .i64 p2, .int .i64 q2, .bool g2, .slice A2 n2 c2, .slice C2 m2 d2, .int .i64 r2]) (Value.agg #[.int .i64 k3, .int .i64 p3, .int .i64 q3, .bool g3, .slice A3 n3 c3, .slice C3 m3 d3, .int .i64 r3]) w' l1 l2 ∧ Plus w1 w' := h w1 hp
theorem Lss.c1 {U V : Value} {w : World} {l1 l2 : Bool} (h : Lss U V w l1 l2) {w1 : World} (o : Offp w w1) : Calls Tryz.prog 216 #[U, V] w1 (fun e w' => e = .returned (.bool l1) ∧ Plus w1 w') := (h w1 o).1
theorem Lss.c2 {U V : Value} {w : World} {l1 l2 : Bool} (h : Lss U V w l1 l2) {w1 : World} (o : Offp w w1) : Calls Tryz.prog 216 #[V, U] w1 (fun e w' => e = .returned (.bool l2) ∧ Plus w1 w') := (h w1 o).2
set_option maxRecDepth 100000 in
set_option maxHeartbeats 4000000 in
theorem order_lt {ka pa qa : Int} {ga : Bool} {Aa Ca : Option Addr} {na ca ma da : Nat} {ra : Int} {kb pb qb : Int} {gb : Bool} {Ab Cb : Option Addr} {nb cb mb db : Nat} {rb : Int} {l1 l2 : Bool} (w : World) (HC : CmpN false false (Value.agg #[.int .i64 ka, .int .i64 pa, .int .i64 qa, .bool ga, .slice Aa na ca, .slice Ca ma da, .int .i64 ra]) (Value.agg #[.int .i64 kb, .int .i64 pb, .int .i64 qb, .bool gb, .slice Ab nb cb, .slice Cb mb db, .int .i64 rb]) l1 l2 w) : Calls Tryz.prog 141 #[.string ⟨#[60]⟩, Value.agg #[.int .i64 ka, .int .i64 pa, .int .i64 qa, .bool ga, .slice Aa na ca, .slice Ca ma da, .int .i64 ra], Value.agg #[.int .i64 kb, .int .i64 pb, .int .i64 qb, .bool gb, .slice Ab nb cb, .slice Cb mb db, .int .i64 rb]] w (fun e w' => e = .returned (.tuple #[Value.agg #[.int .i64 2, .int .i64 0, .int .i64 0, .bool false, .slice none 0 0, .slice none 0 0, .int .i64 (bit l1)], .int .i64 0]) ∧ Plus w w') := by
  go_enter Tryz.func141, Tryz.ntmps141
  go_wp2_with (first | (go_at_call 214; (with_reducible refine (HC.call (by repeat' (first | exact Plus.refl _ | refine Plus.alloc ?_ _ | refine Plus.plus ?_ _ | refine Plus.drew ?_ | refine Plus.drewN ?_ _))).mono ?_); rintro e w1 ⟨k2, p2, q2, g2, A2, C2, n2, c2, m2, d2, r2, k3, p3, q3, g3, A3, C3, n3, c3, m3, d3, r3, rfl, hp2, hp3, hLs, ⟨y1, rfl⟩⟩; have HLs := Lib.hid hLs; clear hLs) | (go_at_call_of 215 (Value.agg #[.int .i64 k2, .int .i64 p2, .int .i64 q2, .bool g2, .slice A2 n2 c2, .slice C2 m2 d2, .int .i64 r2]); (with_reducible refine (isnan_v (b := false) hp2 _).mono ?_); rintro e w1 ⟨rfl, ⟨y2, rfl⟩⟩) | (go_at_call_of 215 (Value.agg #[.int .i64 k3, .int .i64 p3, .int .i64 q3, .bool g3, .slice A3 n3 c3, .slice C3 m3 d3, .int .i64 r3]); (with_reducible refine (isnan_v (b := false) hp3 _).mono ?_); rintro e w1 ⟨rfl, ⟨y3, rfl⟩⟩) | (go_at_call 216; (with_reducible refine (Lss.c1 HLs.out (by repeat (first | (refine Offp.of ?_; (repeat' (first | exact Offs.refl _ | refine Offs.plus ?_ _ | refine Offs.alloc ?_ _ | exact Offs.allocN (Offs.refl _) (nuV _ _ _ _ _ _ _ _ _ _ _ _) | refine Offs.allocN ?_ (nuV _ _ _ _ _ _ _ _ _ _ _ _) | refine Offs.allocN ?_ (nuB _ _ _ _ _) | refine Offs.allocN ?_ (nuN _ _ _) | refine Offs.drew ?_ | refine Offs.drewL ?_ | refine Offs.drewR ?_)); done) | refine Offp.plusR ?_ _ | refine Offp.allocR ?_ _ | refine Offp.drewR ?_))).mono ?_); rintro e w1 ⟨rfl, ⟨y4, rfl⟩⟩) | (go_at_call 39; (with_reducible refine (truth_c l1 _).mono ?_); rintro e w1 ⟨rfl, ⟨y7, rfl⟩⟩))
  go_returns
  exact ⟨rfl, (by repeat' (first | exact Plus.refl _ | refine Plus.alloc ?_ _ | refine Plus.plus ?_ _ | refine Plus.drew ?_ | refine Plus.drewN ?_ _))⟩
end Go.Proofs.YtakahpbondaidaaGreatDoor
