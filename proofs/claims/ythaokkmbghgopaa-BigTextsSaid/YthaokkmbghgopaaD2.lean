/- The document's sums and differences of limbs. -/
import Derived.Laws.Bits64b
import Derived.Laws.Bits64
import Derived.Test.YthaokkmbghgopaaD1
namespace Go.Proofs.Ythaokkmbghgopaa
open Go.RowKit


theorem own_alloc2 {w : World} {b e z n : Nat} {v : Value} {l : List Value} (h : w.ownsRow b e z v n l) (o : Obj) : (w.alloc o).ownsRow b e z v n l := by
  refine ⟨h.1, ?_⟩
  rcases h.2 with hh | ⟨g, cap, cur, hv, hb, hg, r⟩
  · exact .inl hh
  · exact .inr ⟨g, cap, cur, hv, hb, (Below.heap_alloc _ _ _ (Array.getElem?_eq_some_iff.1 hg).1).trans hg, r⟩
theorem news1' (w : World) (u : Value) (t : TypeId) (g : Nat) (hg : g = w.heap.size) : ∀ j v, [u][j]? = some v → (w.alloc (.cells #[u] t)).cell? ((⟨g, 0, none⟩ : Addr).add j) = some v := by
  subst hg
  exact news1 w u t
theorem low32 {v : Nat} (hv : v < 18446744073709551616) : bits BinOp.and IntKind.u64 (v : Int) 4294967295 = ((v % B : Nat) : Int) := by
  rw [show (4294967295 : Int) = ((2 ^ 32 - 1 : Nat) : Int) from rfl, bits_and_u64_nat v _ hv (by decide), Nat.and_two_pow_sub_one_eq_mod]
  rfl
def PlRel (xs ys : List Nat) (n : Nat) (w : World) (s5 s6 s7 : Value) (wr : World) : Prop :=
  ∃ (k : Nat) (os : List Nat) (c : Nat), k ≤ n ∧ s7 = .int .i64 k ∧ s6 = .int .u64 c ∧ SumAt xs ys k os c ∧ wr.ownsRow w.heap.size 53 1 s5 os.length (u32s os) ∧ Below w.heap.size w wr
theorem grown_own {w wr w1 : World} {x : Nat} {os : List Nat} {v v1 : Value} {o : Obj} (h0 : wr.ownsRow w.heap.size 53 1 v os.length (u32s os)) (h1 : w1.ownsRow w.heap.size 53 1 v1 (os.length + 1) (u32s os ++ [.int .u32 (x : Int)])) (hg : (wr.alloc o).grownBy w1 v.ownBlock) (hB : Below w.heap.size w wr) :
    w1.ownsRow w.heap.size 53 1 v1 (os ++ [x]).length (u32s (os ++ [x])) ∧ Below w.heap.size w w1 := by
  refine ⟨?_, (hB.alloc hB.size o).grown hg (by rw [World.size_alloc]; have := hB.size; omega) (fun j hj => (h0.lt j hj).1)⟩
  have e : (os ++ [x]).length = os.length + 1 := by simp
  have e2 : u32s (os ++ [x]) = u32s os ++ [.int .u32 (x : Int)] := by simp [u32s]
  rw [e, e2]
  exact h1

set_option maxRecDepth 100000 in
set_option maxHeartbeats 4000000 in
theorem rplus_c (A C : Option Addr) (xs ys : List Nat) (n c m d : Nat) (w : World) (h : Lim w A xs) (k : Lim w C ys) (hn : n = xs.length) (hm : m = ys.length) (hl : xs.length ≤ 1048576) (kl : ys.length ≤ 1048576) :
    Calls Try.prog 81 #[.slice A n c, .slice C m d] w (RetL (val xs + val ys) w) := by
  subst hn hm
  obtain ⟨i0, hi, hz0, hz1, hz2⟩ := info_parts info53
  by_cases hlt : xs.length < ys.length
  · go_enter Try.func81, Try.ntmps81
    go_wp2
    go_loopw [5, 6, 7] (PlRel xs ys (ys.length + 1) w) (fun _ _ s7 _ => ((ys.length : Int) + 1 - intOf s7).toNat)
    case atStart => exact ⟨0, [], 0, by omega, rfl, rfl, SumAt.zero xs ys, World.ownsRow_nil _ _ _ _, Below.refl _ _⟩
    case round =>
      obtain ⟨j, os, cy, hj, rfl, rfl, hS, hown, hB⟩ := hrel
      obtain ⟨z0, rfl⟩ := Plus.of_below hB
      have HW := Lib.hid hown
      have HB := Lib.hid hB
      by_cases hlt2 : j < ys.length + 1
      · have hjl : (j : Int) < (ys.length : Int) + 1 := by omega
        have hx := rword_c A xs xs.length c j j _ (h.below hB) rfl rfl
        have hy := rword_c C ys ys.length d j j _ (k.below hB) rfl rfl
        obtain ⟨x0, x1⟩ := lim_i h.1 j
        obtain ⟨y0, y1⟩ := lim_i k.1 j
        have hc1 := hS.carry
        have hol := hS.len
        have hsucc := hS.succ h.1 k.1
        have HSU := Lib.hid hsucc
        clear hsucc hown hB hS
        obtain ⟨x, ex⟩ : ∃ x, lim xs j = x := ⟨_, rfl⟩
        obtain ⟨y, ey⟩ : ∃ y, lim ys j = y := ⟨_, rfl⟩
        rw [ex] at hx x0 x1
        rw [ey] at hy y0 y1
        obtain ⟨s, es⟩ : ∃ s, x + y + cy = s := ⟨_, rfl⟩
        have hs : (cy : Int) + (x : Int) + (y : Int) = (s : Int) := by omega
        have hs2 : (s : Int) ≤ 12884901888 := by omega
        have hcx : (cy : Int) + (x : Int) ≤ 8589934592 := by omega
        obtain ⟨o, eo⟩ : ∃ o, s % B = o := ⟨_, rfl⟩
        have hand : bits BinOp.and IntKind.u64 (s : Int) 4294967295 = (o : Int) := by rw [low32 (by omega), eo]
        have ho : (o : Int) ≤ 4294967295 := by have := Nat.mod_lt s B_pos; have := B_eq; omega
        obtain ⟨q, eq⟩ : ∃ q, s / B = q := ⟨_, rfl⟩
        have hq : (s : Int) / 4294967296 = (q : Int) := by rw [← eq, B_eq]; omega
        have HE := Lib.hid (show (lim xs j + lim ys j + cy) % B = o ∧ (lim xs j + lim ys j + cy) / B = q by rw [ex, ey, es]; exact ⟨eo, eq⟩)
        clear es eo eq ex ey x1 y1
        go_wp2_with (first | (first | (go_at_call_of 76 (Value.slice A xs.length c); with_reducible refine hx.mono ?_; rintro e w1 ⟨rfl, rfl⟩) | (go_at_call_of 76 (Value.slice C ys.length d); with_reducible refine hy.mono ?_; rintro e w1 ⟨rfl, rfl⟩)) | (at_builtin; refine wpList_append_own _ rfl _ _ 22 rfl w.heap.size 53 i0 (.int .u32 0) 1 4 Try.underlying22 hi hz0 hz1 hz2 rfl (by decide) _ _ _ rfl (own_alloc2 HW.out _) ⟨w.heap.size + z0.blocks.length, 0, none⟩ 1 1 [.int .u32 (o : Int)] rfl rfl (news1' _ _ _ _ (by simp [size_plus])) (one_u32 _) (by unfold maxLen; omega) (by omega) (by simp [size_plus]; omega) ?_; intro v1 w1 hown1 hgr1 _; have HW2 := Lib.hid hown1; have HG2 := Lib.hid hgr1; clear hown1 hgr1))
        go_roundw
        case rel =>
          obtain ⟨r1, r2⟩ := grown_own HW.out HW2.out HG2.out HB.out
          have q1 := HSU.out
          rw [HE.out.1, HE.out.2] at q1
          exact ⟨j + 1, _, _, by omega, by rw [show ((j + 1 : Nat) : Int) = (j : Int) + 1 by omega], rfl, q1, r1, r2⟩
        case measure => simp [intOf]; omega
      · obtain ⟨hv, _⟩ := hS.done h.1 k.1 (by omega) (by omega)
        have hol := hS.len
        obtain ⟨A2, c2, rfl, q1, q2, q3⟩ := lim_of_own hS.ok hown
        have HT := rtrim_c A2 os j c2 _ q3 hol.symm q1 q2 (by omega)
        rw [hol]
        rw [hv] at HT
        have hnj : ¬ (j : Int) < (ys.length : Int) + 1 := by omega
        clear hS hown hB hol
        go_wp2_with fail
        refine HT.mono ?_
        rintro e w1 ⟨A3, c3, rfl, r1, r2, r3, r4, r5⟩
        have HP := Lib.hid r4
        have HR3 := Lib.hid r3
        have HR5 := Lib.hid r5
        clear r3 r4 r5
        go_wp2_with fail
        go_ret
        exact ⟨A3, c3, rfl, r1, r2, HR3.out, (Plus.is _).trans HP.out, fun ad e => Nat.le_trans (Plus.is (w := w) z0).below.size (HR5.out ad e)⟩
  · go_enter Try.func81, Try.ntmps81
    go_wp2
    go_loopw [5, 6, 7] (PlRel xs ys (xs.length + 1) w) (fun _ _ s7 _ => ((xs.length : Int) + 1 - intOf s7).toNat)
    case atStart => exact ⟨0, [], 0, by omega, rfl, rfl, SumAt.zero xs ys, World.ownsRow_nil _ _ _ _, Below.refl _ _⟩
    case round =>
      obtain ⟨j, os, cy, hj, rfl, rfl, hS, hown, hB⟩ := hrel
      obtain ⟨z0, rfl⟩ := Plus.of_below hB
      have HW := Lib.hid hown
      have HB := Lib.hid hB
      by_cases hlt2 : j < xs.length + 1
      · have hjl : (j : Int) < (xs.length : Int) + 1 := by omega
        have hx := rword_c A xs xs.length c j j _ (h.below hB) rfl rfl
        have hy := rword_c C ys ys.length d j j _ (k.below hB) rfl rfl
        obtain ⟨x0, x1⟩ := lim_i h.1 j
        obtain ⟨y0, y1⟩ := lim_i k.1 j
        have hc1 := hS.carry
        have hol := hS.len
        have hsucc := hS.succ h.1 k.1
        have HSU := Lib.hid hsucc
        clear hsucc hown hB hS
        obtain ⟨x, ex⟩ : ∃ x, lim xs j = x := ⟨_, rfl⟩
        obtain ⟨y, ey⟩ : ∃ y, lim ys j = y := ⟨_, rfl⟩
        rw [ex] at hx x0 x1
        rw [ey] at hy y0 y1
        obtain ⟨s, es⟩ : ∃ s, x + y + cy = s := ⟨_, rfl⟩
        have hs : (cy : Int) + (x : Int) + (y : Int) = (s : Int) := by omega
        have hs2 : (s : Int) ≤ 12884901888 := by omega
        have hcx : (cy : Int) + (x : Int) ≤ 8589934592 := by omega
        obtain ⟨o, eo⟩ : ∃ o, s % B = o := ⟨_, rfl⟩
        have hand : bits BinOp.and IntKind.u64 (s : Int) 4294967295 = (o : Int) := by rw [low32 (by omega), eo]
        have ho : (o : Int) ≤ 4294967295 := by have := Nat.mod_lt s B_pos; have := B_eq; omega
        obtain ⟨q, eq⟩ : ∃ q, s / B = q := ⟨_, rfl⟩
        have hq : (s : Int) / 4294967296 = (q : Int) := by rw [← eq, B_eq]; omega
        have HE := Lib.hid (show (lim xs j + lim ys j + cy) % B = o ∧ (lim xs j + lim ys j + cy) / B = q by rw [ex, ey, es]; exact ⟨eo, eq⟩)
        clear es eo eq ex ey x1 y1
        go_wp2_with (first | (first | (go_at_call_of 76 (Value.slice A xs.length c); with_reducible refine hx.mono ?_; rintro e w1 ⟨rfl, rfl⟩) | (go_at_call_of 76 (Value.slice C ys.length d); with_reducible refine hy.mono ?_; rintro e w1 ⟨rfl, rfl⟩)) | (at_builtin; refine wpList_append_own _ rfl _ _ 22 rfl w.heap.size 53 i0 (.int .u32 0) 1 4 Try.underlying22 hi hz0 hz1 hz2 rfl (by decide) _ _ _ rfl (own_alloc2 HW.out _) ⟨w.heap.size + z0.blocks.length, 0, none⟩ 1 1 [.int .u32 (o : Int)] rfl rfl (news1' _ _ _ _ (by simp [size_plus])) (one_u32 _) (by unfold maxLen; omega) (by omega) (by simp [size_plus]; omega) ?_; intro v1 w1 hown1 hgr1 _; have HW2 := Lib.hid hown1; have HG2 := Lib.hid hgr1; clear hown1 hgr1))
        go_roundw
        case rel =>
          obtain ⟨r1, r2⟩ := grown_own HW.out HW2.out HG2.out HB.out
          have q1 := HSU.out
          rw [HE.out.1, HE.out.2] at q1
          exact ⟨j + 1, _, _, by omega, by rw [show ((j + 1 : Nat) : Int) = (j : Int) + 1 by omega], rfl, q1, r1, r2⟩
        case measure => simp [intOf]; omega
      · obtain ⟨hv, _⟩ := hS.done h.1 k.1 (by omega) (by omega)
        have hol := hS.len
        obtain ⟨A2, c2, rfl, q1, q2, q3⟩ := lim_of_own hS.ok hown
        have HT := rtrim_c A2 os j c2 _ q3 hol.symm q1 q2 (by omega)
        rw [hol]
        rw [hv] at HT
        have hnj : ¬ (j : Int) < (xs.length : Int) + 1 := by omega
        clear hS hown hB hol
        go_wp2_with fail
        refine HT.mono ?_
        rintro e w1 ⟨A3, c3, rfl, r1, r2, r3, r4, r5⟩
        have HP := Lib.hid r4
        have HR3 := Lib.hid r3
        have HR5 := Lib.hid r5
        clear r3 r4 r5
        go_wp2_with fail
        go_ret
        exact ⟨A3, c3, rfl, r1, r2, HR3.out, (Plus.is _).trans HP.out, fun ad e => Nat.le_trans (Plus.is (w := w) z0).below.size (HR5.out ad e)⟩

theorem take_put {l : List Nat} {k v : Nat} (h : k < l.length) : (l.set k v).take (k + 1) = l.take k ++ [v] := by
  rw [List.take_set, List.take_succ_eq_append_getElem h, List.set_append_right _ _ (by rw [List.length_take]; omega), List.length_take, Nat.min_eq_left (by omega), Nat.sub_self]
  rfl
def MiRel (xs ys : List Nat) (w : World) (s5 s6 s7 : Value) (wr : World) : Prop :=
  ∃ (k : Nat) (fs os : List Nat) (c : Nat), k ≤ xs.length ∧ s7 = .int .i64 k ∧ s6 = .int .u64 c ∧ SubAt xs ys k fs c ∧ os = fs.take k ∧ wr.ownsRow w.heap.size 53 1 s5 os.length (u32s os) ∧ Below w.heap.size w wr

set_option maxRecDepth 100000 in
set_option maxHeartbeats 4000000 in
theorem rminus_c (A C : Option Addr) (xs ys : List Nat) (n c m d : Nat) (w : World) (h : Lim w A xs) (k : Lim w C ys) (hn : n = xs.length) (hm : m = ys.length) (hl : xs.length ≤ 1048576) (hle : val ys ≤ val xs) :
    Calls Try.prog 73 #[.slice A n c, .slice C m d] w (RetL (val xs - val ys) w) := by
  subst hn hm
  obtain ⟨i0, hi, hz0, hz1, hz2⟩ := info_parts info53
  have HLE := Lib.hid hle
  clear hle
  go_enter Try.func73, Try.ntmps73
  go_wp2
  go_loopw [5, 6, 7, 8] (fun s5 s6 s7 _ wr => MiRel xs ys w s5 s6 s7 wr) (fun _ _ s7 _ _ => ((xs.length : Int) - intOf s7).toNat)
  case atStart => exact ⟨0, xs, [], 0, by omega, rfl, rfl, SubAt.zero ys h.1, rfl, World.ownsRow_nil _ _ _ _, Below.refl _ _⟩
  case round =>
    obtain ⟨j, fs, os, cy, hj, rfl, rfl, hS, hos, hown, hB⟩ := hrel
    obtain ⟨z0, rfl⟩ := Plus.of_below hB
    have HW := Lib.hid hown
    have HB := Lib.hid hB
    by_cases hlt2 : j < xs.length
    · have hx := rword_c A xs xs.length c j j _ (h.below hB) rfl rfl
      have hy := rword_c C ys ys.length d j j _ (k.below hB) rfl rfl
      obtain ⟨x0, x1⟩ := lim_i h.1 j
      obtain ⟨y0, y1⟩ := lim_i k.1 j
      have hc1 := hS.carry
      have hfl := hS.len
      have hol : os.length = j := by rw [hos, List.length_take]; omega
      have HSU := Lib.hid (hS.succ h.1 k.1 hlt2)
      have HOS := Lib.hid hos
      clear hown hB hS hos
      obtain ⟨x, ex⟩ : ∃ x, lim xs j = x := ⟨_, rfl⟩
      obtain ⟨y, ey⟩ : ∃ y, lim ys j = y := ⟨_, rfl⟩
      rw [ex] at hx x0 x1
      rw [ey] at hy y0 y1
      have eB := B_eq
      obtain ⟨s, es⟩ : ∃ s, B + x - y - cy = s := ⟨_, rfl⟩
      have hs0 : (x : Int) + 4294967296 - (y : Int) ≤ 8589934592 := by omega
      have hs01 : 0 ≤ (x : Int) + 4294967296 - (y : Int) := by omega
      have hs : (x : Int) + 4294967296 - (y : Int) - (cy : Int) = (s : Int) := by omega
      have hs2 : (s : Int) ≤ 8589934592 := by omega
      obtain ⟨o, eo⟩ : ∃ o, s % B = o := ⟨_, rfl⟩
      have hand : bits BinOp.and IntKind.u64 (s : Int) 4294967295 = (o : Int) := by rw [low32 (by omega), eo]
      have ho : (o : Int) ≤ 4294967295 := by have := Nat.mod_lt s B_pos; omega
      obtain ⟨q, eq⟩ : ∃ q, 1 - s / B = q := ⟨_, rfl⟩
      have hq : (1 : Int) - (s : Int) / 4294967296 = (q : Int) := by rw [← eq, B_eq]; omega
      have hq1 : (q : Int) ≤ 1 := by omega
      have HE := Lib.hid (show (B + lim xs j - lim ys j - cy) % B = o ∧ 1 - (B + lim xs j - lim ys j - cy) / B = q by rw [ex, ey, es]; exact ⟨eo, eq⟩)
      clear es eo eq ex ey eB
      go_wp2_with (first | (first | (go_at_call_of 76 (Value.slice A xs.length c); with_reducible refine hx.mono ?_; rintro e w1 ⟨rfl, rfl⟩) | (go_at_call_of 76 (Value.slice C ys.length d); with_reducible refine hy.mono ?_; rintro e w1 ⟨rfl, rfl⟩)) | (at_builtin; refine wpList_append_own _ rfl _ _ 22 rfl w.heap.size 53 i0 (.int .u32 0) 1 4 Try.underlying22 hi hz0 hz1 hz2 rfl (by decide) _ _ _ rfl (own_alloc2 HW.out _) ⟨w.heap.size + z0.blocks.length, 0, none⟩ 1 1 [.int .u32 (o : Int)] rfl rfl (news1' _ _ _ _ (by simp [size_plus])) (one_u32 _) (by unfold maxLen; omega) (by omega) (by simp [size_plus]; omega) ?_; intro v1 w1 hown1 hgr1 _; have HW2 := Lib.hid hown1; have HG2 := Lib.hid hgr1; clear hown1 hgr1))
      go_roundw
      case rel =>
        obtain ⟨r1, r2⟩ := grown_own HW.out HW2.out HG2.out HB.out
        have q1 := HSU.out
        rw [HE.out.1, HE.out.2] at q1
        refine ⟨j + 1, _, _, _, by omega, by rw [show ((j + 1 : Nat) : Int) = (j : Int) + 1 by omega], rfl, q1, ?_, r1, r2⟩
        rw [take_put (by rw [hfl]; exact hlt2), HOS.out]
      case measure => simp [intOf]; omega
    · obtain rfl : j = xs.length := by omega
      have hv := hS.done h.1 HLE.out
      have hfl := hS.len
      have hol : os.length = xs.length := by rw [hos, List.length_take]; omega
      have hof : os = fs := by rw [hos, ← hfl, List.take_length]
      obtain ⟨A2, c2, rfl, q1, q2, q3⟩ := lim_of_own (by rw [hof]; exact hS.ok) hown
      have HT := rtrim_c A2 os xs.length c2 _ q3 hol.symm q1 q2 (by omega)
      rw [hof, show val fs = val xs - val ys by omega] at HT
      rw [hol]
      clear hS hown hB hol hof hv hfl hos
      go_wp2_with fail
      refine HT.mono ?_
      rintro e w1 ⟨A3, c3, rfl, r1, r2, r3, r4, r5⟩
      have HP := Lib.hid r4
      have HR3 := Lib.hid r3
      have HR5 := Lib.hid r5
      clear r3 r4 r5
      go_wp2_with fail
      go_ret
      exact ⟨A3, c3, rfl, r1, r2, HR3.out, (Plus.is _).trans HP.out, fun ad e => Nat.le_trans (Plus.is (w := w) z0).below.size (HR5.out ad e)⟩
end Go.Proofs.Ythaokkmbghgopaa
