/- The walk of TextBlanks. -/
import Derived.IntWalk
import Derived.Test.YtlbjjkiflcjkgaaDoorN7
namespace Go.Proofs.YtlbjjkiflcjkgaaDoor
open Go.RowKit


def blankB (x : Nat) : Bool := x == 32 || x == 9 || x == 10 || x == 13
theorem dw_all {p : UInt8 → Bool} : ∀ a b : List UInt8, (∀ x ∈ a, p x = true) → (a ++ b).dropWhile p = b.dropWhile p
  | [], _, _ => rfl
  | x :: a, b, h => by
    rw [List.cons_append, List.dropWhile_cons, if_pos (h x (by simp))]
    exact dw_all a b fun y hy => h y (List.mem_cons_of_mem _ hy)
theorem dw_some {p : UInt8 → Bool} : ∀ a b : List UInt8, (∃ x ∈ a, p x = false) → (a ++ b).dropWhile p = a.dropWhile p ++ b
  | [], _, h => by obtain ⟨x, hx, _⟩ := h; simp at hx
  | x :: a, b, h => by
    rw [List.cons_append, List.dropWhile_cons, List.dropWhile_cons]
    by_cases q : p x = true
    · rw [if_pos q, if_pos q]
      refine dw_some a b ?_
      obtain ⟨y, hy, hy2⟩ := h
      rcases List.mem_cons.1 hy with e | e
      · rw [e, q] at hy2; cases hy2
      · exact ⟨y, e, hy2⟩
    · rw [if_neg q, if_neg q]; rfl
theorem trim_around (c b1 l b2 : List UInt8) (h1 : ∀ x ∈ b1, c.contains x = true) (h2 : ∀ x ∈ b2, c.contains x = true) : Lib.trimS (b1 ++ l ++ b2) c = Lib.trimS l c := by
  unfold Lib.trimS
  have e1 : Lib.trimRightS (b1 ++ l ++ b2) c = Lib.trimRightS (b1 ++ l) c := by
    unfold Lib.trimRightS
    rw [List.reverse_append, dw_all _ _ (fun x hx => h2 x (List.mem_reverse.1 hx))]
  rw [e1]
  by_cases hl : ∃ x ∈ l, c.contains x = false
  · have e2 : Lib.trimRightS (b1 ++ l) c = b1 ++ Lib.trimRightS l c := by
      unfold Lib.trimRightS
      rw [List.reverse_append, dw_some _ _ (by obtain ⟨x, hx, hx2⟩ := hl; exact ⟨x, List.mem_reverse.2 hx, hx2⟩), List.reverse_append, List.reverse_reverse]
    rw [e2]
    unfold Lib.trimLeftS
    exact dw_all _ _ h1
  · have hl2 : ∀ x ∈ l, c.contains x = true := fun x hx => by
      cases q : c.contains x
      · exact absurd ⟨x, hx, q⟩ hl
      · rfl
    have e3 : Lib.trimRightS l c = [] := by
      unfold Lib.trimRightS
      have := dw_all (p := (c.contains ·)) l.reverse [] (fun x hx => hl2 x (List.mem_reverse.1 hx))
      rw [List.append_nil] at this
      rw [this]
      rfl
    have e4 : Lib.trimRightS (b1 ++ l) c = [] := by
      unfold Lib.trimRightS
      have := dw_all (p := (c.contains ·)) (b1 ++ l).reverse [] (fun x hx => by
        rcases List.mem_append.1 (List.mem_reverse.1 hx) with h | h
        · exact h1 x h
        · exact hl2 x h)
      rw [List.append_nil] at this
      rw [this]
      rfl
    rw [e3, e4]
theorem blank_in {b : List Nat} (h : b.all blankB = true) : ∀ x ∈ b.map Nat.toUInt8, blankS.contains x = true := fun x hx => by
  obtain ⟨y, hy, rfl⟩ := List.mem_map.1 hx
  have := List.all_eq_true.1 h y hy
  unfold blankB at this
  simp at this
  rcases this with ((rfl | rfl) | rfl) | rfl <;> decide
theorem blank_low {b : List Nat} (h : b.all blankB = true) : low b = true := by
  unfold low
  rw [List.all_eq_true] at h ⊢
  intro x hx
  have := h x hx
  unfold blankB at this
  simp at this
  simp
  omega
theorem num_around {b1 xs b2 : List Nat} (h1 : b1.all blankB = true) (h2 : b2.all blankB = true) : numU (b1 ++ xs ++ b2) = numU xs := by
  have e : low (b1 ++ xs ++ b2) = low xs := by
    have l1 := blank_low h1
    have l2 := blank_low h2
    unfold low at l1 l2 ⊢
    rw [List.all_append, List.all_append, l1, l2]
    simp
  unfold numU
  rw [e, List.map_append, List.map_append, trim_around _ _ _ _ (blank_in h1) (blank_in h2)]
def BlRel (ys : List Nat) (m : Nat) (W : World) (s7 s8 : Value) (wr : World) : Prop :=
  ∃ (k : Nat) (bs : List Nat), k ≤ m ∧ s8 = .int .i64 k ∧ bs.length = k ∧ bs.all blankB = true ∧ wr.ownsRow W.heap.size 35 1 s7 (ys ++ bs).length (vals .u16 (ys ++ bs)) ∧ Below W.heap.size W wr
theorem BlRel.step {ys : List Nat} {m k : Nat} {W wr w1 : World} {bs : List Nat} {x : Nat} {s7 v1 : Value} {o1 o2 : Obj} (hk : k < m) (hl : bs.length = k) (hb : bs.all blankB = true) (hown : wr.ownsRow W.heap.size 35 1 s7 (ys ++ bs).length (vals .u16 (ys ++ bs))) (hB : Below W.heap.size W wr) (hx : blankB x = true)
    (h1 : w1.ownsRow W.heap.size 35 1 v1 ((ys ++ bs).length + 1) (vals .u16 (ys ++ bs) ++ [.int .u16 (x : Int)])) (hg : ((wr.alloc o1).alloc o2).grownBy w1 s7.ownBlock) : BlRel ys m W v1 (.int .i64 ((k : Int) + 1)) w1 := by
  refine ⟨k + 1, bs ++ [x], hk, by rw [show ((k + 1 : Nat) : Int) = (k : Int) + 1 by omega], by simp [hl], by rw [List.all_append, hb]; simpa using hx, ?_, below_own (own_alloc hown o1) hg (hB.alloc hB.size o1) (by rw [World.size_alloc]; have := hB.size; omega)⟩
  rw [← List.append_assoc, List.length_append, vals_app]
  exact h1
theorem bl_start {W W2 w1 : World} {v v1 : Value} {xs ys : List Nat} {m : Nat} (h0 : W2.ownsRow W.heap.size 35 1 v xs.length (vals .u16 xs)) (hp : Plus W W2) (h : w1.ownsRow W.heap.size 35 1 v1 (xs.length + ys.length) (vals .u16 xs ++ vals .u16 ys)) (hg : W2.grownBy w1 v.ownBlock) :
    BlRel (xs ++ ys) m W v1 (.int .i64 0) w1 := by
  refine ⟨0, [], by omega, rfl, rfl, rfl, ?_, ?_⟩
  · rw [List.append_nil, List.length_append, vals_app]; exact h
  · refine hp.below.grown hg hp.below.size (fun j hj => ?_)
    rcases h0.2 with ⟨rfl, _⟩ | ⟨g, cap, cur, rfl, hbg, _⟩
    · cases hj
    · injection hj with hj
      subst hj
      exact hbg
theorem own_hid {w : World} {b : Nat} {v : Value} {zs : List Nat} (h : w.ownsRow b 35 1 v zs.length (vals .u16 zs)) (hb : isU zs) : ∃ C m d, v = .slice C m d ∧ m = zs.length ∧ Hid (Ar .u16 65536 w C zs m d) := by
  obtain ⟨C, d, rfl, q1, q2, q3⟩ := rd_of_own h
  exact ⟨C, _, d, rfl, rfl, Lib.hid ⟨q3, rfl, q1, q2, hb⟩⟩
theorem own_num {w : World} {b : Nat} {v : Value} {zs : List Nat} {r : Ans} (h : w.ownsRow b 35 1 v zs.length (vals .u16 zs)) (hb : isU zs) (hl : zs.length ≤ 4000) (hr : numU zs = r) : ∃ C m d zs, v = .slice C m d ∧ m ≤ 4000 ∧ Hid (Ar .u16 65536 w C zs m d) ∧ Hid (numU zs = r) := by
  obtain ⟨C, d, rfl, q1, q2, q3⟩ := rd_of_own h
  exact ⟨C, _, d, zs, rfl, hl, Lib.hid ⟨q3, rfl, q1, q2, hb⟩, Lib.hid hr⟩
theorem blank_U {b : List Nat} (h : b.all blankB = true) : isU b := fun x hx => by
  have := List.all_eq_true.1 (blank_low h) x hx
  simp at this
  omega
theorem number_n {A : Option Addr} {xs : List Nat} {n c : Nat} {k0 n0 : Int} {ok : Bool} (hh : Hid (numU xs = ⟨k0, n0, ok⟩)) (w : World) (hL : Lai w) (h : Ar .u16 65536 w A xs n c) (hs : n ≤ 1000000) :
    Calls Tryd.prog 24 #[.slice A n c] w fun e w' => e = .returned (.tuple #[.agg #[.int .i64 k0, .int .i64 n0], .bool ok]) ∧ Plus w w' := by
  have e := number_c A xs n c w hL h hs
  rw [hh.out] at e
  exact e
theorem refNum_same (k n : Int) (w : World) : Calls Tryd.prog 29 #[.agg #[.int .i64 k, .int .i64 n], .agg #[.int .i64 k, .int .i64 n]] w fun e w' => e = .returned (.bool true) ∧ Plus w w' := by
  have e := refNum_c k n k n w
  rw [show decide (k = k ∧ n = n) = true by simp] at e
  exact e

set_option maxRecDepth 100000 in
set_option maxHeartbeats 16000000 in
theorem blanks_h (A : Option Addr) (xs : List Nat) (n c p q : Nat) (w : World) (hL : Hid (Lai w)) (ha : Hid (Ar .u16 65536 w A xs n c)) (f1 : n ≤ 2000) (f2 : p ≤ 100) (f3 : q ≤ 100) (hxl : xs.length ≤ 2000) (k0 n0 : Int) (ok : Bool) (hnum : Hid (numU xs = ⟨k0, n0, ok⟩)) : Calls Tryd.prog 10 #[.slice A n c, .int .i64 p, .int .i64 q] w fun e w' => e = .returned (.bool true) ∧ Plus w w' := by
  obtain ⟨i0, hi, hz0, hz1, hz2⟩ := info_parts infoU16
  go_enter Tryd.func10, Tryd.ntmps10
  go_wp2_with fail
  refine (first_c _ (hL.out.plus (by repeat' (first | exact Plus.refl _ | refine Plus.alloc ?_ _ | refine Plus.plus ?_ _ | refine Plus.drew ?_ | refine Plus.drewN ?_ _)))).mono ?_
  rintro e w1 ⟨rfl, ⟨y0, rfl⟩⟩
  go_wp2_with fail
  go_loopw [7, 8] (BlRel ([] : List Nat) p (plus w y0)) (fun _ s8 _ => ((p : Int) - intOf s8).toNat)
  case atStart => exact ⟨0, [], by omega, rfl, rfl, rfl, World.ownsRow_nil _ _ _ _, Below.refl _ _⟩
  case round =>
    obtain ⟨k, b1, hkk, rfl, hbl, hba, hown, hB⟩ := hrel
    obtain ⟨z0, rfl⟩ := Plus.of_below hB
    have HLk := Lib.hid hbl
    have HAk := Lib.hid hba
    have HWk := Lib.hid hown
    have hyl : (([] : List Nat) ++ b1).length ≤ 4000 := by rw [List.length_append, hbl]; simp; omega
    clear hbl hba hown
    by_cases hlt : k < p
    · have h4 : (k : Int) % 4 = 0 ∨ (k : Int) % 4 = 1 ∨ (k : Int) % 4 = 2 ∨ (k : Int) % 4 = 3 := by omega
      rcases h4 with h4 | h4 | h4 | h4
      · go_wp2_with (at_builtin; refine wpList_append_own _ rfl _ _ 23 rfl (plus w y0).heap.size 35 i0 (.int .u16 0) 1 2 Tryd.underlying23 hi hz0 hz1 hz2 rfl (by decide) _ _ _ rfl (own_alloc (own_alloc HWk.out _) _) ⟨w.heap.size + y0.blocks.length + z0.blocks.length + 1, 0, none⟩ 1 1 [.int .u16 32] rfl rfl (news_at' _ _ _ _ (by simp [size_plus])) (one_u16 [32]) (by unfold maxLen; omega) (by omega) (by simp [size_plus]; omega) ?_; intro v1 w1 hown1 hgr1 _; have HW2 := Lib.hid hown1; have HG2 := Lib.hid hgr1; clear hown1 hgr1)
        go_roundw
        case rel => exact BlRel.step hlt HLk.out HAk.out HWk.out hB (x := 32) rfl HW2.out HG2.out
        case measure => simp [intOf]; omega
      · go_wp2_with (at_builtin; refine wpList_append_own _ rfl _ _ 23 rfl (plus w y0).heap.size 35 i0 (.int .u16 0) 1 2 Tryd.underlying23 hi hz0 hz1 hz2 rfl (by decide) _ _ _ rfl (own_alloc (own_alloc HWk.out _) _) ⟨w.heap.size + y0.blocks.length + z0.blocks.length + 1, 0, none⟩ 1 1 [.int .u16 9] rfl rfl (news_at' _ _ _ _ (by simp [size_plus])) (one_u16 [9]) (by unfold maxLen; omega) (by omega) (by simp [size_plus]; omega) ?_; intro v1 w1 hown1 hgr1 _; have HW2 := Lib.hid hown1; have HG2 := Lib.hid hgr1; clear hown1 hgr1)
        go_roundw
        case rel => exact BlRel.step hlt HLk.out HAk.out HWk.out hB (x := 9) rfl HW2.out HG2.out
        case measure => simp [intOf]; omega
      · go_wp2_with (at_builtin; refine wpList_append_own _ rfl _ _ 23 rfl (plus w y0).heap.size 35 i0 (.int .u16 0) 1 2 Tryd.underlying23 hi hz0 hz1 hz2 rfl (by decide) _ _ _ rfl (own_alloc (own_alloc HWk.out _) _) ⟨w.heap.size + y0.blocks.length + z0.blocks.length + 1, 0, none⟩ 1 1 [.int .u16 10] rfl rfl (news_at' _ _ _ _ (by simp [size_plus])) (one_u16 [10]) (by unfold maxLen; omega) (by omega) (by simp [size_plus]; omega) ?_; intro v1 w1 hown1 hgr1 _; have HW2 := Lib.hid hown1; have HG2 := Lib.hid hgr1; clear hown1 hgr1)
        go_roundw
        case rel => exact BlRel.step hlt HLk.out HAk.out HWk.out hB (x := 10) rfl HW2.out HG2.out
        case measure => simp [intOf]; omega
      · go_wp2_with (at_builtin; refine wpList_append_own _ rfl _ _ 23 rfl (plus w y0).heap.size 35 i0 (.int .u16 0) 1 2 Tryd.underlying23 hi hz0 hz1 hz2 rfl (by decide) _ _ _ rfl (own_alloc (own_alloc HWk.out _) _) ⟨w.heap.size + y0.blocks.length + z0.blocks.length + 1, 0, none⟩ 1 1 [.int .u16 13] rfl rfl (news_at' _ _ _ _ (by simp [size_plus])) (one_u16 [13]) (by unfold maxLen; omega) (by omega) (by simp [size_plus]; omega) ?_; intro v1 w1 hown1 hgr1 _; have HW2 := Lib.hid hown1; have HG2 := Lib.hid hgr1; clear hown1 hgr1)
        go_roundw
        case rel => exact BlRel.step hlt HLk.out HAk.out HWk.out hB (x := 13) rfl HW2.out HG2.out
        case measure => simp [intOf]; omega
    · obtain rfl : k = p := by omega
      rw [List.nil_append] at HWk
      go_wp2_with (at_builtin; refine wpList_append_rd (by rfl) _ _ 23 rfl (plus w y0).heap.size 35 i0 (.int .u16 0) 2 .u16 Tryd.underlying23 hi hz0 hz1 hz2 (by decide) _ b1 xs rfl HWk.out _ _ _ rfl ha.out.len (ha.out.rd.plus (by repeat' (first | exact Plus.refl _ | refine Plus.alloc ?_ _ | refine Plus.plus ?_ _ | refine Plus.drew ?_ | refine Plus.drewN ?_ _))) (by have := HLk.out; unfold maxLen; omega) (by have := HLk.out; omega) (by simp [size_plus]) ?_; intro vv w1 hown1 hgr1; have HR := Lib.hid (bl_start (m := q) HWk.out (Plus.is _) hown1 hgr1); clear hown1 hgr1)
      go_loopw [7, 9] (BlRel (b1 ++ xs) q (plus w y0)) (fun _ s8 _ => ((q : Int) - intOf s8).toNat)
      case atStart => exact HR.out
      case round =>
        obtain ⟨j, b2, hkj, rfl, hbl, hba, hown, hB⟩ := hrel
        obtain ⟨z1, rfl⟩ := Plus.of_below hB
        have HLj := Lib.hid hbl
        have HAj := Lib.hid hba
        have HWj := Lib.hid hown
        have hyl : ((b1 ++ xs) ++ b2).length ≤ 4000 := by rw [List.length_append, hbl]; rw [List.length_append]; have := HLk.out; omega
        clear hbl hba hown
        by_cases hlt : j < q
        · have h4 : (j : Int) % 4 = 0 ∨ (j : Int) % 4 = 1 ∨ (j : Int) % 4 = 2 ∨ (j : Int) % 4 = 3 := by omega
          rcases h4 with h4 | h4 | h4 | h4
          · go_wp2_with (at_builtin; refine wpList_append_own _ rfl _ _ 23 rfl (plus w y0).heap.size 35 i0 (.int .u16 0) 1 2 Tryd.underlying23 hi hz0 hz1 hz2 rfl (by decide) _ _ _ rfl (own_alloc (own_alloc HWj.out _) _) ⟨w.heap.size + y0.blocks.length + z1.blocks.length + 1, 0, none⟩ 1 1 [.int .u16 13] rfl rfl (news_at' _ _ _ _ (by simp [size_plus])) (one_u16 [13]) (by unfold maxLen; omega) (by omega) (by simp [size_plus]; omega) ?_; intro v1 w1 hown1 hgr1 _; have HW2 := Lib.hid hown1; have HG2 := Lib.hid hgr1; clear hown1 hgr1)
            go_roundw
            case rel => exact BlRel.step hlt HLj.out HAj.out HWj.out hB (x := 13) rfl HW2.out HG2.out
            case measure => simp [intOf]; omega
          · go_wp2_with (at_builtin; refine wpList_append_own _ rfl _ _ 23 rfl (plus w y0).heap.size 35 i0 (.int .u16 0) 1 2 Tryd.underlying23 hi hz0 hz1 hz2 rfl (by decide) _ _ _ rfl (own_alloc (own_alloc HWj.out _) _) ⟨w.heap.size + y0.blocks.length + z1.blocks.length + 1, 0, none⟩ 1 1 [.int .u16 32] rfl rfl (news_at' _ _ _ _ (by simp [size_plus])) (one_u16 [32]) (by unfold maxLen; omega) (by omega) (by simp [size_plus]; omega) ?_; intro v1 w1 hown1 hgr1 _; have HW2 := Lib.hid hown1; have HG2 := Lib.hid hgr1; clear hown1 hgr1)
            go_roundw
            case rel => exact BlRel.step hlt HLj.out HAj.out HWj.out hB (x := 32) rfl HW2.out HG2.out
            case measure => simp [intOf]; omega
          · go_wp2_with (at_builtin; refine wpList_append_own _ rfl _ _ 23 rfl (plus w y0).heap.size 35 i0 (.int .u16 0) 1 2 Tryd.underlying23 hi hz0 hz1 hz2 rfl (by decide) _ _ _ rfl (own_alloc (own_alloc HWj.out _) _) ⟨w.heap.size + y0.blocks.length + z1.blocks.length + 1, 0, none⟩ 1 1 [.int .u16 10] rfl rfl (news_at' _ _ _ _ (by simp [size_plus])) (one_u16 [10]) (by unfold maxLen; omega) (by omega) (by simp [size_plus]; omega) ?_; intro v1 w1 hown1 hgr1 _; have HW2 := Lib.hid hown1; have HG2 := Lib.hid hgr1; clear hown1 hgr1)
            go_roundw
            case rel => exact BlRel.step hlt HLj.out HAj.out HWj.out hB (x := 10) rfl HW2.out HG2.out
            case measure => simp [intOf]; omega
          · go_wp2_with (at_builtin; refine wpList_append_own _ rfl _ _ 23 rfl (plus w y0).heap.size 35 i0 (.int .u16 0) 1 2 Tryd.underlying23 hi hz0 hz1 hz2 rfl (by decide) _ _ _ rfl (own_alloc (own_alloc HWj.out _) _) ⟨w.heap.size + y0.blocks.length + z1.blocks.length + 1, 0, none⟩ 1 1 [.int .u16 9] rfl rfl (news_at' _ _ _ _ (by simp [size_plus])) (one_u16 [9]) (by unfold maxLen; omega) (by omega) (by simp [size_plus]; omega) ?_; intro v1 w1 hown1 hgr1 _; have HW2 := Lib.hid hown1; have HG2 := Lib.hid hgr1; clear hown1 hgr1)
            go_roundw
            case rel => exact BlRel.step hlt HLj.out HAj.out HWj.out hB (x := 9) rfl HW2.out HG2.out
            case measure => simp [intOf]; omega
        · obtain rfl : j = q := by omega
          obtain ⟨C, m, d, zs, rfl, hm, hv, hnum2⟩ := own_num (r := ⟨k0, n0, ok⟩) HWj.out (isU_app (isU_app (blank_U HAk.out) ha.out.bd) (blank_U HAj.out)) hyl (by rw [num_around HAk.out HAj.out]; exact hnum.out)
          clear HWj HAj HLj HR HWk HAk HLk hyl
          go_wp2_with fail
          refine (number_n hnum _ (hL.out.plus (by repeat' (first | exact Plus.refl _ | refine Plus.alloc ?_ _ | refine Plus.plus ?_ _ | refine Plus.drew ?_ | refine Plus.drewN ?_ _))) (ha.out.plus (by repeat' (first | exact Plus.refl _ | refine Plus.alloc ?_ _ | refine Plus.plus ?_ _ | refine Plus.drew ?_ | refine Plus.drewN ?_ _))) (by omega)).mono ?_
          rintro e w1 ⟨rfl, ⟨y1, rfl⟩⟩
          go_wp2_with fail
          refine (number_n hnum2 _ (hL.out.plus (by repeat' (first | exact Plus.refl _ | refine Plus.alloc ?_ _ | refine Plus.plus ?_ _ | refine Plus.drew ?_ | refine Plus.drewN ?_ _))) (hv.out.plus (by repeat' (first | exact Plus.refl _ | refine Plus.alloc ?_ _ | refine Plus.plus ?_ _ | refine Plus.drew ?_ | refine Plus.drewN ?_ _))) (by omega)).mono ?_
          rintro e w1 ⟨rfl, ⟨y2, rfl⟩⟩
          go_wp2_with fail
          refine (first_c _ (hL.out.plus (by repeat' (first | exact Plus.refl _ | refine Plus.alloc ?_ _ | refine Plus.plus ?_ _ | refine Plus.drew ?_ | refine Plus.drewN ?_ _)))).mono ?_
          rintro e w1 ⟨rfl, ⟨y3, rfl⟩⟩
          go_wp2_with fail
          refine (refNum_same k0 n0 _).mono ?_
          rintro e w1 ⟨rfl, ⟨y4, rfl⟩⟩
          go_wp2_with fail
          go_returns
          exact ⟨rfl, (by repeat' (first | exact Plus.refl _ | refine Plus.alloc ?_ _ | refine Plus.plus ?_ _ | refine Plus.drew ?_ | refine Plus.drewN ?_ _))⟩

set_option maxRecDepth 100000 in
set_option maxHeartbeats 4000000 in
theorem blanks_few (A : Option Addr) (n c : Nat) (p q : Int) (w : World) (hL : Hid (Lai w)) (hf : ¬ (n ≤ 2000 ∧ 0 ≤ p ∧ p ≤ 100 ∧ 0 ≤ q ∧ q ≤ 100)) : Calls Tryd.prog 10 #[.slice A n c, .int .i64 p, .int .i64 q] w fun e w' => e = .returned (.bool true) ∧ Plus w w' := by
  have h3 : 2000 < n ∨ (n ≤ 2000 ∧ p < 0) ∨ (n ≤ 2000 ∧ 0 ≤ p ∧ 100 < p) ∨ (n ≤ 2000 ∧ 0 ≤ p ∧ p ≤ 100 ∧ q < 0) ∨ (n ≤ 2000 ∧ 0 ≤ p ∧ p ≤ 100 ∧ 0 ≤ q ∧ 100 < q) := by omega
  clear hf
  rcases h3 with f1 | ⟨f1, f2⟩ | ⟨f1, f2, f3⟩ | ⟨f1, f2, f3, f4⟩ | ⟨f1, f2, f3, f4, f5⟩
  all_goals
    go_enter Tryd.func10, Tryd.ntmps10
    go_wp2_with fail
    refine (first_c _ (hL.out.plus (by repeat' (first | exact Plus.refl _ | refine Plus.alloc ?_ _ | refine Plus.plus ?_ _ | refine Plus.drew ?_ | refine Plus.drewN ?_ _)))).mono ?_
    rintro e w1 ⟨rfl, ⟨y0, rfl⟩⟩
    go_wp2_with fail
    refine (first_c _ (hL.out.plus (by repeat' (first | exact Plus.refl _ | refine Plus.alloc ?_ _ | refine Plus.plus ?_ _ | refine Plus.drew ?_ | refine Plus.drewN ?_ _)))).mono ?_
    rintro e w1 ⟨rfl, ⟨y1, rfl⟩⟩
    go_wp2_with fail
    go_returns
    exact ⟨rfl, (by repeat' (first | exact Plus.refl _ | refine Plus.alloc ?_ _ | refine Plus.plus ?_ _ | refine Plus.drew ?_ | refine Plus.drewN ?_ _))⟩

set_option maxHeartbeats 4000000 in
theorem blanks_w (A : Option Addr) (xs : List Nat) (n c : Nat) (p q : Int) (w : World) (hL : Lai w) (ha : Ar .u16 65536 w A xs n c) :
    Calls Tryd.prog 10 #[.slice A n c, .int .i64 p, .int .i64 q] w fun e w' => e = .returned (.bool true) ∧ Plus w w' := by
  by_cases hf : n ≤ 2000 ∧ 0 ≤ p ∧ p ≤ 100 ∧ 0 ≤ q ∧ q ≤ 100
  · obtain ⟨f1, f2, f3, f4, f5⟩ := hf
    obtain ⟨i, rfl⟩ : ∃ i : Nat, p = i := ⟨p.toNat, by omega⟩
    obtain ⟨j, rfl⟩ : ∃ j : Nat, q = j := ⟨q.toNat, by omega⟩
    have hn := ha.len
    exact blanks_h A xs n c i j w (Lib.hid hL) (Lib.hid ha) f1 (by omega) (by omega) (by omega) _ _ _ (Lib.hid rfl)
  · exact blanks_few A n c p q w (Lib.hid hL) hf
end Go.Proofs.YtlbjjkiflcjkgaaDoor
