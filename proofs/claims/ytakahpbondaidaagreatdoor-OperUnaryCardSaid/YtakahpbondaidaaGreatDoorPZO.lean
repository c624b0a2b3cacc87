/- renref2: word, cmp, trim. -/
import Derived.Deep.OwnRows
import Derived.Laws.Bits64b
import Derived.Laws.Bits64
import Derived.Deep.RegionHeld3
import Derived.Test.YtakahpbondaidaaGreatDoorPZG
namespace Go.Proofs.YtakahpbondaidaaGreatDoor.Bg
open Go.RowKit

theorem rword_c (A : Option Addr) (xs : List Nat) (n c k : Nat) (i : Int) (w : World) (h : Lim w A xs) (hn : n = xs.length) (hi : i = k) :
    Calls Tryz.prog 126 #[.slice A n c, .int .i64 i] w fun e w' => e = .returned (.int .u64 (lim xs k : Nat)) ∧ w = w' := by
  subst hn hi
  have hl := lim_i h.1 k
  by_cases hlt : k < xs.length
  · obtain ⟨ad, rfl, hc⟩ := h.at_ hlt
    obtain ⟨v, hv⟩ : ∃ v, lim xs k = v := ⟨_, rfl⟩
    rw [hv] at hc hl ⊢
    obtain ⟨l0, l1⟩ := hl
    clear hv
    go_enter Tryz.func126, Tryz.ntmps126
    go_wp2
    go_ret
    exact ⟨by simp, rfl⟩
  · rw [lim_out (by omega)]
    go_enter Tryz.func126, Tryz.ntmps126
    go_wp2
    go_ret
    exact ⟨rfl, rfl⟩

set_option maxHeartbeats 2000000 in
theorem rcmp_c (A C : Option Addr) (xs ys : List Nat) (n c m d : Nat) (w : World) (h : Lim w A xs) (k : Lim w C ys) (hn : n = xs.length) (hm : m = ys.length) (hl : xs.length ≤ 1048576) (kl : ys.length ≤ 1048576) :
    Calls Tryz.prog 204 #[.slice A n c, .slice C m d] w fun e w' => e = .returned (.int .i64 (cmpI (val xs) (val ys))) ∧ w = w' := by
  subst hn hm
  by_cases hlt : xs.length < ys.length
  all_goals
    go_enter Tryz.func204, Tryz.ntmps204
    go_wp2
    go_loop [5, 6, 7] (fun s _ _ => ∃ m : Nat, m ≤ 1048576 ∧ s = .int .i64 (m - 1 : Int) ∧ CmpAt xs ys m) (fun s _ _ => (intOf s + 1).toNat)
    case atStart => first | exact ⟨ys.length, kl, rfl, CmpAt.top (by omega) (by omega)⟩ | exact ⟨xs.length, hl, rfl, CmpAt.top (by omega) (by omega)⟩
    case round =>
      obtain ⟨m, hm, rfl, hz⟩ := hrel
      rcases m with _ | m
      · have HE := Lib.hid (cmpI_eq hz.zero)
        go_wp2
        go_ret
        exact ⟨by rw [HE.out]; rfl, rfl⟩
      · have em : ((m + 1 : Nat) : Int) - 1 = m := by omega
        rw [em]
        have hx := rword_c A xs xs.length c m m w h rfl rfl
        have hy := rword_c C ys ys.length d m m w k rfl rfl
        obtain ⟨x, ex⟩ : ∃ x, lim xs m = x := ⟨_, rfl⟩
        obtain ⟨y, ey⟩ : ∃ y, lim ys m = y := ⟨_, rfl⟩
        rcases Nat.lt_trichotomy (lim xs m) (lim ys m) with hv | hv | hv
        · have HE := Lib.hid (cmpI_lt (hz.less h.1 hv))
          rw [ex, ey] at hv
          rw [ex] at hx
          rw [ey] at hy
          have b2 : (x : Int) < (y : Int) := by omega
          go_wp2_with (first | (go_at_call_of 126 (Value.slice A xs.length c); with_reducible refine hx.mono ?_; rintro e w1 ⟨rfl, rfl⟩) | (go_at_call_of 126 (Value.slice C ys.length d); with_reducible refine hy.mono ?_; rintro e w1 ⟨rfl, rfl⟩))
          go_ret
          exact ⟨by rw [HE.out]; rfl, rfl⟩
        · have HS := Lib.hid (hz.same hv)
          rw [ex, ey] at hv
          subst hv
          rw [ex] at hx
          rw [ey] at hy
          go_wp2_with (first | (go_at_call_of 126 (Value.slice A xs.length c); with_reducible refine hx.mono ?_; rintro e w1 ⟨rfl, rfl⟩) | (go_at_call_of 126 (Value.slice C ys.length d); with_reducible refine hy.mono ?_; rintro e w1 ⟨rfl, rfl⟩))
          go_round
          case rel => exact ⟨m, by omega, rfl, HS.out⟩
          case measure => simp [intOf]
        · have HE := Lib.hid (cmpI_gt (hz.swap.less k.1 hv))
          rw [ex, ey] at hv
          rw [ex] at hx
          rw [ey] at hy
          have b1 : ¬ (x : Int) < (y : Int) := by omega
          have b2 : (y : Int) < (x : Int) := by omega
          go_wp2_with (first | (go_at_call_of 126 (Value.slice A xs.length c); with_reducible refine hx.mono ?_; rintro e w1 ⟨rfl, rfl⟩) | (go_at_call_of 126 (Value.slice C ys.length d); with_reducible refine hy.mono ?_; rintro e w1 ⟨rfl, rfl⟩))
          go_ret
          exact ⟨by rw [HE.out]; rfl, rfl⟩

/-- A new slice of the limbs of V, without noughts above. -/
def RetL (V : Nat) (w : World) (e : Ending) (w' : World) : Prop :=
  ∃ (A : Option Addr) (c : Nat), e = .returned (.slice A (dig V).length c) ∧ (dig V).length ≤ c ∧ c ≤ 9223372036854775807 ∧ Lim w' A (dig V) ∧ Plus w w' ∧ (∀ ad, A = some ad → w.heap.size ≤ ad.block)
theorem news_lim {w : World} {ad : Addr} {xs : List Nat} (h : Lim w (some ad) xs) : ∀ j v, (u32s xs)[j]? = some v → w.cell? (ad.add j) = some v := fun j v hj => by
  unfold u32s at hj
  rw [List.getElem?_map] at hj
  have hlt : j < xs.length := by
    apply Nat.lt_of_not_le
    intro q
    rw [List.getElem?_eq_none q] at hj
    cases hj
  obtain ⟨ad', e, hc⟩ := h.at_ hlt
  obtain rfl := Option.some.inj e
  rw [List.getElem?_eq_getElem hlt] at hj
  rw [hc, ← hj, lim_in hlt]
  rfl
theorem lim_of_own' {w : World} {b : Nat} {v : Value} {os : List Nat} (ho : okL os) (h : w.ownsRow b 69 1 v os.length (u32s os)) : ∃ A c, v = .slice A os.length c ∧ os.length ≤ c ∧ c ≤ 9223372036854775807 ∧ Lim w A os ∧ ∀ ad, A = some ad → b ≤ ad.block := by
  obtain ⟨A, c, rfl, q1, q2, q3⟩ := lim_of_own ho h
  refine ⟨A, c, rfl, q1, q2, q3, fun ad e => ?_⟩
  subst e
  rcases h.2 with ⟨e, _⟩ | ⟨g, cap, cur, e, hb, _⟩
  · cases e
  · injection e with e1 _ _
    injection e1 with e1
    subst e1
    exact hb
theorem trim_done {w w1 : World} {xs : List Nat} {k : Nat} {v1 : Value} (hk : xs.take k = dig (val xs)) (hkl : k ≤ xs.length) (ho : okL xs) (h1 : w1.ownsRow w.heap.size 69 1 v1 (0 + k) (([] : List Value) ++ u32s (xs.take k))) (hg : (w.alloc (.cells #[] 69)).grownBy w1 (some w.heap.size)) : RetL (val xs) w (.returned v1) w1 := by
  have hl : (xs.take k).length = k := by rw [List.length_take]; omega
  rw [Nat.zero_add, List.nil_append, ← hl] at h1
  obtain ⟨A, c, rfl, q1, q2, q3, q4⟩ := lim_of_own' (ho.take k) (by rw [hl] at h1 ⊢; exact h1)
  rw [hk] at q1 q3 ⊢
  refine ⟨A, c, rfl, q1, q2, q3, .of_below ?_, q4⟩
  have hb : Below w.heap.size w (w.alloc (.cells #[] 69)) := (Below.refl _ w).alloc (Nat.le_refl _) _
  exact hb.grown hg (by simp) (fun j e => by injection e with e; omega)
set_option maxRecDepth 100000 in
set_option maxHeartbeats 2000000 in
theorem rtrim_c (A : Option Addr) (xs : List Nat) (n c : Nat) (w : World) (h : Lim w A xs) (hn : n = xs.length) (hl : xs.length ≤ c) (hc : c ≤ 9223372036854775807) (hs : xs.length ≤ 2097152) :
    Calls Tryz.prog 199 #[.slice A n c] w (RetL (val xs) w) := by
  subst hn
  obtain ⟨i0, hi, hz0, hz1, hz2⟩ := info_parts info53_
  have H := Lib.hid h
  rcases A with _ | ad
  · have h0 : xs = [] := by
      rcases xs with _ | ⟨x, xs⟩
      · rfl
      · obtain ⟨ad, e, _⟩ := h.2 (by simp)
        cases e
    subst h0
    go_enter Tryz.func199, Tryz.ntmps199
    go_wp2
    go_loop [3] (fun s => s = .int .i64 0) (fun _ => 0)
    case atStart => rfl
    case round =>
      subst hrel
      go_wp2
      go_ret
      refine ⟨_, _, by rw [show val [] = 0 from rfl, dig_zero]; rfl, by rw [show val [] = 0 from rfl, dig_zero]; exact Nat.le_refl _, by decide, by rw [show val [] = 0 from rfl, dig_zero]; exact Lim.nil, (by repeat' (first | exact Plus.refl _ | refine Plus.alloc ?_ _ | refine Plus.plus ?_ _ | refine Plus.drew ?_ | refine Plus.drewN ?_ _)), fun ad e => by injection e with e; subst e; exact Nat.le_refl _⟩
  · go_enter Tryz.func199, Tryz.ntmps199
    go_wp2
    go_loop [3] (fun s => ∃ k : Nat, k ≤ xs.length ∧ s = .int .i64 k ∧ Zer xs k) (fun s => (intOf s).toNat)
    case atStart => exact ⟨xs.length, Nat.le_refl _, rfl, Zer.all xs⟩
    case round =>
      obtain ⟨k, hk, rfl, hz⟩ := hrel
      have hkc : (k : Int) ≤ (c : Int) := by omega
      have e0 : ad.add 0 = ad := by unfold Addr.add; rw [if_pos rfl]
      by_cases h0 : 0 < k
      · obtain ⟨ad', e, hcell⟩ := h.at_ (k := k - 1) (by omega)
        obtain rfl := Option.some.inj e
        have e1 : ((k : Int) - 1).toNat = k - 1 := by omega
        by_cases hv : lim xs (k - 1) = 0
        · have hb := cast_eq hv
          go_wp2
          go_round
          case rel => exact ⟨k - 1, by omega, by rw [show ((k - 1 : Nat) : Int) = (k : Int) - 1 by omega], Zer.down (by rw [show k - 1 + 1 = k by omega]; exact hz) hv⟩
          case measure => simp [intOf]; omega
        · have hb := cast_ne hv
          have HK := Lib.hid (trim_k h.1 hk hz (.inr hv))
          clear hz h
          go_wp2_with (at_builtin; refine wpList_append_own _ rfl _ _ 24 rfl w.heap.size 69 i0 (.int .u32 0) 1 4 Tryz.underlying24 hi hz0 hz1 hz2 rfl (by decide) _ _ _ rfl (World.ownsRow_made w #[] 0 (Nat.le_refl _) (Nat.zero_le _) rfl) ad k c (u32s (xs.take k)) rfl (by rw [u32s_len, List.length_take]; omega) (news_lim ((H.out.alloc _).take k)) (u32s_one _) (by unfold maxLen; omega) (by omega) (by simp) ?_; intro v1 w1 hown1 hgr1 _; have HW1 := Lib.hid hown1; have HG1 := Lib.hid hgr1; clear hown1 hgr1)
          go_ret
          exact trim_done HK.out hk H.out.1 HW1.out HG1.out
      · obtain rfl : k = 0 := by omega
        have HK := Lib.hid (trim_k h.1 hk hz (.inl rfl))
        clear hz h
        rw [show ((0 : Nat) : Int) = 0 from rfl]
        go_wp2_with (at_builtin; refine wpList_append_own _ rfl _ _ 24 rfl w.heap.size 69 i0 (.int .u32 0) 1 4 Tryz.underlying24 hi hz0 hz1 hz2 rfl (by decide) _ _ _ rfl (World.ownsRow_made w #[] 0 (Nat.le_refl _) (Nat.zero_le _) rfl) ad 0 c (u32s (xs.take 0)) rfl (by rw [u32s_len, List.length_take]; omega) (news_lim ((H.out.alloc _).take 0)) (u32s_one _) (by unfold maxLen; omega) (by omega) (by simp) ?_; intro v1 w1 hown1 hgr1 _; have HW1 := Lib.hid hown1; have HG1 := Lib.hid hgr1; clear hown1 hgr1)
        go_ret
        exact trim_done HK.out hk H.out.1 HW1.out HG1.out

end Go.Proofs.YtakahpbondaidaaGreatDoor.Bg
namespace Go.Proofs.YtakahpbondaidaaGreatDoor.Bg
open Go.RowKit

theorem own_alloc2 {w : World} {b e z n : Nat} {v : Value} {l : List Value} (h : w.ownsRow b e z v n l) (o : Obj) : (w.alloc o).ownsRow b e z v n l := by
  refine ⟨h.1, ?_⟩
  rcases h.2 with hh | ⟨g, cap, cur, hv, hb, hg, r⟩
  · exact .inl hh
  · exact .inr ⟨g, cap, cur, hv, hb, (Below.heap_alloc _ _ _ (Array.getElem?_eq_some_iff.1 hg).1).trans hg, r⟩
theorem news1' (w : World) (u : Value) (t : TypeId) (g : Nat) (hg : g = w.heap.size) : ∀ j v, [u][j]? = some v → (w.alloc (.cells #[u] t)).cell? ((⟨g, 0, none⟩ : Addr).add j) = some v := by
  subst hg
  exact news1 w u t
theorem low32 {v : Nat} (hv : v < 18446744073709551616) : bits BinOp.and IntKind.u64 (v : Int) 4294967295 = ((v % B : Nat) : Int) := by
  rw [show (4294967295 : Int) = ((2 ^ 32 - 1 : Nat) : Int) from rfl, bits_and_u64_nat v _ hv (by decide), Nat.and_two_pow_sub_one_eq_mod]
  rfl
def PlRel (xs ys : List Nat) (n : Nat) (w : World) (s5 s6 s7 : Value) (wr : World) : Prop :=
  ∃ (k : Nat) (os : List Nat) (c : Nat), k ≤ n ∧ s7 = .int .i64 k ∧ s6 = .int .u64 c ∧ SumAt xs ys k os c ∧ wr.ownsRow w.heap.size 69 1 s5 os.length (u32s os) ∧ Below w.heap.size w wr
theorem grown_own {w wr w1 : World} {x : Nat} {os : List Nat} {v v1 : Value} {o : Obj} (h0 : wr.ownsRow w.heap.size 69 1 v os.length (u32s os)) (h1 : w1.ownsRow w.heap.size 69 1 v1 (os.length + 1) (u32s os ++ [.int .u32 (x : Int)])) (hg : (wr.alloc o).grownBy w1 v.ownBlock) (hB : Below w.heap.size w wr) :
    w1.ownsRow w.heap.size 69 1 v1 (os ++ [x]).length (u32s (os ++ [x])) ∧ Below w.heap.size w w1 := by
  refine ⟨?_, (hB.alloc hB.size o).grown hg (by rw [World.size_alloc]; have := hB.size; omega) (fun j hj => (h0.lt j hj).1)⟩
  have e : (os ++ [x]).length = os.length + 1 := by simp
  have e2 : u32s (os ++ [x]) = u32s os ++ [.int .u32 (x : Int)] := by simp [u32s]
  rw [e, e2]
  exact h1

set_option maxRecDepth 100000 in
set_option maxHeartbeats 4000000 in
theorem rplus_c (A C : Option Addr) (xs ys : List Nat) (n c m d : Nat) (w : World) (h : Lim w A xs) (k : Lim w C ys) (hn : n = xs.length) (hm : m = ys.length) (hl : xs.length ≤ 1048576) (kl : ys.length ≤ 1048576) :
    Calls Tryz.prog 200 #[.slice A n c, .slice C m d] w (RetL (val xs + val ys) w) := by
  subst hn hm
  obtain ⟨i0, hi, hz0, hz1, hz2⟩ := info_parts info53_
  by_cases hlt : xs.length < ys.length
  · go_enter Tryz.func200, Tryz.ntmps200
    go_wp2
    go_loopw [5, 6, 7] (PlRel xs ys (ys.length + 1) w) (fun _ _ s7 _ => ((ys.length : Int) + 1 - intOf s7).toNat)
    case atStart => exact ⟨0, [], 0, by omega, rfl, rfl, SumAt.zero xs ys, World.ownsRow_nil _ _ _ _, Below.refl _ _⟩
    case round =>
      obtain ⟨j, os, cy, hj, rfl, rfl, hS, hown, hB⟩ := hrel
      obtain ⟨z0, rfl⟩ := Plus.of_below hB
      have HW := Lib.hid hown
      have HB := Lib.hid hB
      by_cases hlt2 : j < ys.length + 1
      · have hjl : (j : Int) < (ys.length : Int) + 1 := by omega
        have hx := rword_c A xs xs.length c j j _ (h.below hB) rfl rfl
        have hy := rword_c C ys ys.length d j j _ (k.below hB) rfl rfl
        obtain ⟨x0, x1⟩ := lim_i h.1 j
        obtain ⟨y0, y1⟩ := lim_i k.1 j
        have hc1 := hS.carry
        have hol := hS.len
        have hsucc := hS.succ h.1 k.1
        have HSU := Lib.hid hsucc
        clear hsucc hown hB hS
        obtain ⟨x, ex⟩ : ∃ x, lim xs j = x := ⟨_, rfl⟩
        obtain ⟨y, ey⟩ : ∃ y, lim ys j = y := ⟨_, rfl⟩
        rw [ex] at hx x0 x1
        rw [ey] at hy y0 y1
        obtain ⟨s, es⟩ : ∃ s, x + y + cy = s := ⟨_, rfl⟩
        have hs : (cy : Int) + (x : Int) + (y : Int) = (s : Int) := by omega
        have hs2 : (s : Int) ≤ 12884901888 := by omega
        have hcx : (cy : Int) + (x : Int) ≤ 8589934592 := by omega
        obtain ⟨o, eo⟩ : ∃ o, s % B = o := ⟨_, rfl⟩
        have hand : bits BinOp.and IntKind.u64 (s : Int) 4294967295 = (o : Int) := by rw [low32 (by omega), eo]
        have ho : (o : Int) ≤ 4294967295 := by have := Nat.mod_lt s B_pos; have := B_eq; omega
        obtain ⟨q, eq⟩ : ∃ q, s / B = q := ⟨_, rfl⟩
        have hq : (s : Int) / 4294967296 = (q : Int) := by rw [← eq, B_eq]; omega
        have HE := Lib.hid (show (lim xs j + lim ys j + cy) % B = o ∧ (lim xs j + lim ys j + cy) / B = q by rw [ex, ey, es]; exact ⟨eo, eq⟩)
        clear es eo eq ex ey x1 y1
        go_wp2_with (first | (first | (go_at_call_of 126 (Value.slice A xs.length c); with_reducible refine hx.mono ?_; rintro e w1 ⟨rfl, rfl⟩) | (go_at_call_of 126 (Value.slice C ys.length d); with_reducible refine hy.mono ?_; rintro e w1 ⟨rfl, rfl⟩)) | (at_builtin; refine wpList_append_own _ rfl _ _ 24 rfl w.heap.size 69 i0 (.int .u32 0) 1 4 Tryz.underlying24 hi hz0 hz1 hz2 rfl (by decide) _ _ _ rfl (own_alloc2 HW.out _) ⟨w.heap.size + z0.blocks.length, 0, none⟩ 1 1 [.int .u32 (o : Int)] rfl rfl (news1' _ _ _ _ (by simp [size_plus])) (one_u32 _) (by unfold maxLen; omega) (by omega) (by simp [size_plus]; omega) ?_; intro v1 w1 hown1 hgr1 _; have HW2 := Lib.hid hown1; have HG2 := Lib.hid hgr1; clear hown1 hgr1))
        go_roundw
        case rel =>
          obtain ⟨r1, r2⟩ := grown_own HW.out HW2.out HG2.out HB.out
          have q1 := HSU.out
          rw [HE.out.1, HE.out.2] at q1
          exact ⟨j + 1, _, _, by omega, by rw [show ((j + 1 : Nat) : Int) = (j : Int) + 1 by omega], rfl, q1, r1, r2⟩
        case measure => simp [intOf]; omega
      · obtain ⟨hv, _⟩ := hS.done h.1 k.1 (by omega) (by omega)
        have hol := hS.len
        obtain ⟨A2, c2, rfl, q1, q2, q3⟩ := lim_of_own hS.ok hown
        have HT := rtrim_c A2 os j c2 _ q3 hol.symm q1 q2 (by omega)
        rw [hol]
        rw [hv] at HT
        have hnj : ¬ (j : Int) < (ys.length : Int) + 1 := by omega
        clear hS hown hB hol
        go_wp2_with fail
        refine HT.mono ?_
        rintro e w1 ⟨A3, c3, rfl, r1, r2, r3, r4, r5⟩
        have HP := Lib.hid r4
        have HR3 := Lib.hid r3
        have HR5 := Lib.hid r5
        clear r3 r4 r5
        go_wp2_with fail
        go_ret
        exact ⟨A3, c3, rfl, r1, r2, HR3.out, (Plus.is _).trans HP.out, fun ad e => Nat.le_trans (Plus.is (w := w) z0).below.size (HR5.out ad e)⟩
  · go_enter Tryz.func200, Tryz.ntmps200
    go_wp2
    go_loopw [5, 6, 7] (PlRel xs ys (xs.length + 1) w) (fun _ _ s7 _ => ((xs.length : Int) + 1 - intOf s7).toNat)
    case atStart => exact ⟨0, [], 0, by omega, rfl, rfl, SumAt.zero xs ys, World.ownsRow_nil _ _ _ _, Below.refl _ _⟩
    case round =>
      obtain ⟨j, os, cy, hj, rfl, rfl, hS, hown, hB⟩ := hrel
      obtain ⟨z0, rfl⟩ := Plus.of_below hB
      have HW := Lib.hid hown
      have HB := Lib.hid hB
      by_cases hlt2 : j < xs.length + 1
      · have hjl : (j : Int) < (xs.length : Int) + 1 := by omega
        have hx := rword_c A xs xs.length c j j _ (h.below hB) rfl rfl
        have hy := rword_c C ys ys.length d j j _ (k.below hB) rfl rfl
        obtain ⟨x0, x1⟩ := lim_i h.1 j
        obtain ⟨y0, y1⟩ := lim_i k.1 j
        have hc1 := hS.carry
        have hol := hS.len
        have hsucc := hS.succ h.1 k.1
        have HSU := Lib.hid hsucc
        clear hsucc hown hB hS
        obtain ⟨x, ex⟩ : ∃ x, lim xs j = x := ⟨_, rfl⟩
        obtain ⟨y, ey⟩ : ∃ y, lim ys j = y := ⟨_, rfl⟩
        rw [ex] at hx x0 x1
        rw [ey] at hy y0 y1
        obtain ⟨s, es⟩ : ∃ s, x + y + cy = s := ⟨_, rfl⟩
        have hs : (cy : Int) + (x : Int) + (y : Int) = (s : Int) := by omega
        have hs2 : (s : Int) ≤ 12884901888 := by omega
        have hcx : (cy : Int) + (x : Int) ≤ 8589934592 := by omega
        obtain ⟨o, eo⟩ : ∃ o, s % B = o := ⟨_, rfl⟩
        have hand : bits BinOp.and IntKind.u64 (s : Int) 4294967295 = (o : Int) := by rw [low32 (by omega), eo]
        have ho : (o : Int) ≤ 4294967295 := by have := Nat.mod_lt s B_pos; have := B_eq; omega
        obtain ⟨q, eq⟩ : ∃ q, s / B = q := ⟨_, rfl⟩
        have hq : (s : Int) / 4294967296 = (q : Int) := by rw [← eq, B_eq]; omega
        have HE := Lib.hid (show (lim xs j + lim ys j + cy) % B = o ∧ (lim xs j + lim ys j + cy) / B = q by rw [ex, ey, es]; exact ⟨eo, eq⟩)
        clear es eo eq ex ey x1 y1
        go_wp2_with (first | (first | (go_at_call_of 126 (Value.slice A xs.length c); with_reducible refine hx.mono ?_; rintro e w1 ⟨rfl, rfl⟩) | (go_at_call_of 126 (Value.slice C ys.length d); with_reducible refine hy.mono ?_; rintro e w1 ⟨rfl, rfl⟩)) | (at_builtin; refine wpList_append_own _ rfl _ _ 24 rfl w.heap.size 69 i0 (.int .u32 0) 1 4 Tryz.underlying24 hi hz0 hz1 hz2 rfl (by decide) _ _ _ rfl (own_alloc2 HW.out _) ⟨w.heap.size + z0.blocks.length, 0, none⟩ 1 1 [.int .u32 (o : Int)] rfl rfl (news1' _ _ _ _ (by simp [size_plus])) (one_u32 _) (by unfold maxLen; omega) (by omega) (by simp [size_plus]; omega) ?_; intro v1 w1 hown1 hgr1 _; have HW2 := Lib.hid hown1; have HG2 := Lib.hid hgr1; clear hown1 hgr1))
        go_roundw
        case rel =>
          obtain ⟨r1, r2⟩ := grown_own HW.out HW2.out HG2.out HB.out
          have q1 := HSU.out
          rw [HE.out.1, HE.out.2] at q1
          exact ⟨j + 1, _, _, by omega, by rw [show ((j + 1 : Nat) : Int) = (j : Int) + 1 by omega], rfl, q1, r1, r2⟩
        case measure => simp [intOf]; omega
      · obtain ⟨hv, _⟩ := hS.done h.1 k.1 (by omega) (by omega)
        have hol := hS.len
        obtain ⟨A2, c2, rfl, q1, q2, q3⟩ := lim_of_own hS.ok hown
        have HT := rtrim_c A2 os j c2 _ q3 hol.symm q1 q2 (by omega)
        rw [hol]
        rw [hv] at HT
        have hnj : ¬ (j : Int) < (xs.length : Int) + 1 := by omega
        clear hS hown hB hol
        go_wp2_with fail
        refine HT.mono ?_
        rintro e w1 ⟨A3, c3, rfl, r1, r2, r3, r4, r5⟩
        have HP := Lib.hid r4
        have HR3 := Lib.hid r3
        have HR5 := Lib.hid r5
        clear r3 r4 r5
        go_wp2_with fail
        go_ret
        exact ⟨A3, c3, rfl, r1, r2, HR3.out, (Plus.is _).trans HP.out, fun ad e => Nat.le_trans (Plus.is (w := w) z0).below.size (HR5.out ad e)⟩

theorem take_put {l : List Nat} {k v : Nat} (h : k < l.length) : (l.set k v).take (k + 1) = l.take k ++ [v] := by
  rw [List.take_set, List.take_succ_eq_append_getElem h, List.set_append_right _ _ (by rw [List.length_take]; omega), List.length_take, Nat.min_eq_left (by omega), Nat.sub_self]
  rfl
def MiRel (xs ys : List Nat) (w : World) (s5 s6 s7 : Value) (wr : World) : Prop :=
  ∃ (k : Nat) (fs os : List Nat) (c : Nat), k ≤ xs.length ∧ s7 = .int .i64 k ∧ s6 = .int .u64 c ∧ SubAt xs ys k fs c ∧ os = fs.take k ∧ wr.ownsRow w.heap.size 69 1 s5 os.length (u32s os) ∧ Below w.heap.size w wr

set_option maxRecDepth 100000 in
set_option maxHeartbeats 4000000 in
theorem rminus_c (A C : Option Addr) (xs ys : List Nat) (n c m d : Nat) (w : World) (h : Lim w A xs) (k : Lim w C ys) (hn : n = xs.length) (hm : m = ys.length) (hl : xs.length ≤ 1048576) (hle : val ys ≤ val xs) :
    Calls Tryz.prog 205 #[.slice A n c, .slice C m d] w (RetL (val xs - val ys) w) := by
  subst hn hm
  obtain ⟨i0, hi, hz0, hz1, hz2⟩ := info_parts info53_
  have HLE := Lib.hid hle
  clear hle
  go_enter Tryz.func205, Tryz.ntmps205
  go_wp2
  go_loopw [5, 6, 7, 8] (fun s5 s6 s7 _ wr => MiRel xs ys w s5 s6 s7 wr) (fun _ _ s7 _ _ => ((xs.length : Int) - intOf s7).toNat)
  case atStart => exact ⟨0, xs, [], 0, by omega, rfl, rfl, SubAt.zero ys h.1, rfl, World.ownsRow_nil _ _ _ _, Below.refl _ _⟩
  case round =>
    obtain ⟨j, fs, os, cy, hj, rfl, rfl, hS, hos, hown, hB⟩ := hrel
    obtain ⟨z0, rfl⟩ := Plus.of_below hB
    have HW := Lib.hid hown
    have HB := Lib.hid hB
    by_cases hlt2 : j < xs.length
    · have hx := rword_c A xs xs.length c j j _ (h.below hB) rfl rfl
      have hy := rword_c C ys ys.length d j j _ (k.below hB) rfl rfl
      obtain ⟨x0, x1⟩ := lim_i h.1 j
      obtain ⟨y0, y1⟩ := lim_i k.1 j
      have hc1 := hS.carry
      have hfl := hS.len
      have hol : os.length = j := by rw [hos, List.length_take]; omega
      have HSU := Lib.hid (hS.succ h.1 k.1 hlt2)
      have HOS := Lib.hid hos
      clear hown hB hS hos
      obtain ⟨x, ex⟩ : ∃ x, lim xs j = x := ⟨_, rfl⟩
      obtain ⟨y, ey⟩ : ∃ y, lim ys j = y := ⟨_, rfl⟩
      rw [ex] at hx x0 x1
      rw [ey] at hy y0 y1
      have eB := B_eq
      obtain ⟨s, es⟩ : ∃ s, B + x - y - cy = s := ⟨_, rfl⟩
      have hs0 : (x : Int) + 4294967296 - (y : Int) ≤ 8589934592 := by omega
      have hs01 : 0 ≤ (x : Int) + 4294967296 - (y : Int) := by omega
      have hs : (x : Int) + 4294967296 - (y : Int) - (cy : Int) = (s : Int) := by omega
      have hs2 : (s : Int) ≤ 8589934592 := by omega
      obtain ⟨o, eo⟩ : ∃ o, s % B = o := ⟨_, rfl⟩
      have hand : bits BinOp.and IntKind.u64 (s : Int) 4294967295 = (o : Int) := by rw [low32 (by omega), eo]
      have ho : (o : Int) ≤ 4294967295 := by have := Nat.mod_lt s B_pos; omega
      obtain ⟨q, eq⟩ : ∃ q, 1 - s / B = q := ⟨_, rfl⟩
      have hq : (1 : Int) - (s : Int) / 4294967296 = (q : Int) := by rw [← eq, B_eq]; omega
      have hq1 : (q : Int) ≤ 1 := by omega
      have HE := Lib.hid (show (B + lim xs j - lim ys j - cy) % B = o ∧ 1 - (B + lim xs j - lim ys j - cy) / B = q by rw [ex, ey, es]; exact ⟨eo, eq⟩)
      clear es eo eq ex ey eB
      go_wp2_with (first | (first | (go_at_call_of 126 (Value.slice A xs.length c); with_reducible refine hx.mono ?_; rintro e w1 ⟨rfl, rfl⟩) | (go_at_call_of 126 (Value.slice C ys.length d); with_reducible refine hy.mono ?_; rintro e w1 ⟨rfl, rfl⟩)) | (at_builtin; refine wpList_append_own _ rfl _ _ 24 rfl w.heap.size 69 i0 (.int .u32 0) 1 4 Tryz.underlying24 hi hz0 hz1 hz2 rfl (by decide) _ _ _ rfl (own_alloc2 HW.out _) ⟨w.heap.size + z0.blocks.length, 0, none⟩ 1 1 [.int .u32 (o : Int)] rfl rfl (news1' _ _ _ _ (by simp [size_plus])) (one_u32 _) (by unfold maxLen; omega) (by omega) (by simp [size_plus]; omega) ?_; intro v1 w1 hown1 hgr1 _; have HW2 := Lib.hid hown1; have HG2 := Lib.hid hgr1; clear hown1 hgr1))
      go_roundw
      case rel =>
        obtain ⟨r1, r2⟩ := grown_own HW.out HW2.out HG2.out HB.out
        have q1 := HSU.out
        rw [HE.out.1, HE.out.2] at q1
        refine ⟨j + 1, _, _, _, by omega, by rw [show ((j + 1 : Nat) : Int) = (j : Int) + 1 by omega], rfl, q1, ?_, r1, r2⟩
        rw [take_put (by rw [hfl]; exact hlt2), HOS.out]
      case measure => simp [intOf]; omega
    · obtain rfl : j = xs.length := by omega
      have hv := hS.done h.1 HLE.out
      have hfl := hS.len
      have hol : os.length = xs.length := by rw [hos, List.length_take]; omega
      have hof : os = fs := by rw [hos, ← hfl, List.take_length]
      obtain ⟨A2, c2, rfl, q1, q2, q3⟩ := lim_of_own (by rw [hof]; exact hS.ok) hown
      have HT := rtrim_c A2 os xs.length c2 _ q3 hol.symm q1 q2 (by omega)
      rw [hof, show val fs = val xs - val ys by omega] at HT
      rw [hol]
      clear hS hown hB hol hof hv hfl hos
      go_wp2_with fail
      refine HT.mono ?_
      rintro e w1 ⟨A3, c3, rfl, r1, r2, r3, r4, r5⟩
      have HP := Lib.hid r4
      have HR3 := Lib.hid r3
      have HR5 := Lib.hid r5
      clear r3 r4 r5
      go_wp2_with fail
      go_ret
      exact ⟨A3, c3, rfl, r1, r2, HR3.out, (Plus.is _).trans HP.out, fun ad e => Nat.le_trans (Plus.is (w := w) z0).below.size (HR5.out ad e)⟩

end Go.Proofs.YtakahpbondaidaaGreatDoor.Bg
namespace Go.Proofs.YtakahpbondaidaaGreatDoor.Bg
open Go.RowKit

set_option maxHeartbeats 1000000 in
theorem rmay_c (neg : Bool) (A : Option Addr) (xs : List Nat) (n c : Nat) (w : World) (h : Lim w A xs) (hn : n = xs.length) (hl : xs.length ≤ 1152921504606846976) :
    Calls Tryz.prog 184 #[.agg #[.bool neg, .slice A n c]] w fun e w' => e = .returned (.bool (mayL neg xs)) ∧ Plus w w' := by
  subst hn
  by_cases h0 : xs.length = 0
  · have HM : Hid (mayL neg xs = !neg) := Lib.hid (by unfold mayL; rw [if_pos h0])
    rw [h0]
    cases neg
    all_goals
      go_enter Tryz.func184, Tryz.ntmps184
      go_wp2
      go_ret
      exact ⟨by rw [HM.out]; rfl, (Plus.refl _).alloc _⟩
  · have h0b : ((xs.length : Int) == 0) = false := by simpa using h0
    by_cases h8 : xs.length ≤ 8
    · have h8b : decide ((xs.length : Int) ≤ 8) = true := by simp; omega
      obtain ⟨ad, rfl, hcell⟩ := h.at_ (k := xs.length - 1) (by omega)
      have e1 : ((xs.length : Int) - 1).toNat = xs.length - 1 := by omega
      have e2 : (xs.length : Int) - 1 < (xs.length : Int) := by omega
      have hcw : ∀ o : Obj, (w.alloc o).cell? (ad.add (xs.length - 1)) = some (.int .u32 (lim xs (xs.length - 1) : Nat)) := fun o => by
        rw [World.cell?_alloc_lt _ _ _ (World.block_lt_of_cell? _ _ hcell)]
        exact hcell
      by_cases hv : lim xs (xs.length - 1) = 0
      · have HM : Hid (mayL neg xs = false) := Lib.hid (by unfold mayL; rw [if_neg h0, hv]; simp)
        have hb : (((lim xs (xs.length - 1) : Nat) : Int) != 0) = false := by rw [hv]; rfl
        go_enter Tryz.func184, Tryz.ntmps184
        go_wp2
        go_ret
        exact ⟨by rw [HM.out]; rfl, (Plus.refl _).alloc _⟩
      · have HM : Hid (mayL neg xs = true) := Lib.hid (by unfold mayL; rw [if_neg h0]; simp [h8, hv])
        have hb : (((lim xs (xs.length - 1) : Nat) : Int) != 0) = true := by simpa using hv
        go_enter Tryz.func184, Tryz.ntmps184
        go_wp2
        go_ret
        exact ⟨by rw [HM.out]; rfl, (Plus.refl _).alloc _⟩
    · have HM : Hid (mayL neg xs = false) := Lib.hid (by unfold mayL; rw [if_neg h0]; simp [h8])
      have h8b : decide ((xs.length : Int) ≤ 8) = false := by simp; omega
      go_enter Tryz.func184, Tryz.ntmps184
      go_wp2
      go_ret
      exact ⟨by rw [HM.out]; rfl, (Plus.refl _).alloc _⟩

set_option maxHeartbeats 1000000 in
theorem rgood_c (neg : Bool) (A : Option Addr) (xs : List Nat) (n c : Nat) (w : World) (h : Lim w A xs) (hn : n = xs.length) (hl : xs.length ≤ 1152921504606846976) (hlc : xs.length ≤ c) (hc : c ≤ 9223372036854775807) :
    Calls Tryz.prog 124 #[.agg #[.bool neg, .slice A n c]] w (RetBig (bigI neg xs) w) := by
  subst hn
  by_cases hm : mayL neg xs = true
  · obtain ⟨e1, e2, _⟩ := may_yes h.1 hm
    have E1 := Lib.hid e1; clear e1
    have E2 := Lib.hid e2; clear e2
    have HM := Lib.hid hm; clear hm
    go_enter Tryz.func124, Tryz.ntmps124
    go_wp2_with (go_at_call 184; refine (rmay_c _ _ _ _ _ _ ((h.alloc _).alloc _) rfl hl).mono ?_; rintro e w1 ⟨rfl, ⟨x, rfl⟩⟩; rw [HM.out])
    go_returns
    refine ⟨A, c, ?_, by rw [← E1.out]; exact hlc, hc, by rw [← E1.out]; exact ((h.alloc _).alloc _).grow _, ?_⟩
    · rw [← E1.out, ← E2.out]
    · repeat' (first | exact Plus.refl _ | refine Plus.alloc ?_ _ | refine Plus.plus ?_ _ | refine Plus.drew ?_ | refine Plus.drewN ?_ _)
  · have hm' : mayL neg xs = false := by simpa using hm
    have h0 := may_no hm'
    have HM := Lib.hid hm'; clear hm hm'
    rw [h0]
    go_enter Tryz.func124, Tryz.ntmps124
    go_wp2_with (go_at_call 184; refine (rmay_c _ _ _ _ _ _ ((h.alloc _).alloc _) rfl hl).mono ?_; rintro e w1 ⟨rfl, ⟨x, rfl⟩⟩; rw [HM.out])
    go_returns
    refine ⟨none, 0, by rw [show (0 : Int).natAbs = 0 from rfl, dig_zero]; rfl, by rw [show (0 : Int).natAbs = 0 from rfl, dig_zero]; exact Nat.le_refl _, by omega, by rw [show (0 : Int).natAbs = 0 from rfl, dig_zero]; exact Lim.nil, ?_⟩
    repeat' (first | exact Plus.refl _ | refine Plus.alloc ?_ _ | refine Plus.plus ?_ _ | refine Plus.drew ?_ | refine Plus.drewN ?_ _)

set_option maxHeartbeats 1000000 in
theorem rmade_c (neg : Bool) (A : Option Addr) (xs : List Nat) (n c : Nat) (w : World) (h : Lim w A xs) (hn : n = xs.length) (hl : xs.length ≤ c) (hc : c ≤ 9223372036854775807) (hs : xs.length ≤ 2097152) :
    Calls Tryz.prog 112 #[.bool neg, .slice A n c] w (RetBig (sgn neg (val xs)) w) := by
  subst hn
  have HT := fun o : Obj => rtrim_c A xs xs.length c (w.alloc o) (h.alloc o) rfl hl hc hs
  obtain ⟨m, hm⟩ : ∃ m, val xs = m := ⟨_, rfl⟩
  rw [hm] at HT ⊢
  by_cases h0 : m = 0
  · subst h0
    have e1 : (dig 0).length = 0 := by rw [dig_zero]; rfl
    clear hm h
    cases neg
    all_goals
      go_enter Tryz.func112, Tryz.ntmps112
      go_wp2_with fail
      refine (HT _).mono ?_
      rintro e w1 ⟨A3, c3, rfl, r1, r2, r3, ⟨x1, rfl⟩, r5⟩
      rw [e1]
      go_wp2_with fail
      go_returns
      refine ⟨A3, c3, ?_, by rw [sgn_abs, e1]; exact Nat.zero_le _, r2, by rw [sgn_abs, dig_zero]; exact Lim.nil, (by repeat' (first | exact Plus.refl _ | refine Plus.alloc ?_ _ | refine Plus.plus ?_ _ | refine Plus.drew ?_ | refine Plus.drewN ?_ _))⟩
      rw [sgn_abs, e1]
      rfl
  · obtain ⟨L, hlen⟩ : ∃ L, (dig m).length = L := ⟨_, rfl⟩
    have hL0 : 0 < L := by rw [← hlen]; exact Nat.pos_of_ne_zero (dig_ne h0)
    have hL1 : (0 : Int) < (L : Int) := by omega
    clear hm h
    cases neg
    all_goals
      go_enter Tryz.func112, Tryz.ntmps112
      go_wp2_with fail
      refine (HT _).mono ?_
      rintro e w1 ⟨A3, c3, rfl, r1, r2, r3, ⟨x1, rfl⟩, r5⟩
      have HL3 := Lib.hid r3
      clear r3 r5 HT
      rw [hlen]
      go_wp2_with fail
      go_returns
      refine ⟨A3, c3, ?_, by rw [sgn_abs]; exact r1, r2, by rw [sgn_abs]; exact HL3.out.res, (by repeat' (first | exact Plus.refl _ | refine Plus.alloc ?_ _ | refine Plus.plus ?_ _ | refine Plus.drew ?_ | refine Plus.drewN ?_ _))⟩
      rw [sgn_abs, sgn_neg h0, hlen]

end Go.Proofs.YtakahpbondaidaaGreatDoor.Bg
namespace Go.Proofs.YtakahpbondaidaaGreatDoor.Bg
open Go.RowKit

theorem alloc_plus (w : World) (x : More) (o : Obj) : (plus w x).alloc o = plus w (x.add ⟨[o], x.draws⟩) := by
  simp [plus, World.alloc, More.add]
theorem alloc_two (w : World) (o p : Obj) : (w.alloc o).alloc p = plus (w.alloc o) ⟨[p], (w.alloc o).drawn⟩ := by
  show ({ (w.alloc o) with heap := (w.alloc o).heap.push p } : World) = _
  unfold plus
  congr 1
theorem rgood_h {neg pb : Bool} {A : Option Addr} {xs us : List Nat} {n c : Nat} (hid : Hid (decide (bigI neg xs < 0) = pb ∧ dig (bigI neg xs).natAbs = us)) (w : World) (h : Arg w A xs n c) :
    Calls Tryz.prog 124 #[.agg #[.bool neg, .slice A n c]] w fun e w' => ∃ (A1 : Option Addr) (c1 : Nat), e = .returned (.agg #[.bool pb, .slice A1 us.length c1]) ∧ us.length ≤ c1 ∧ c1 ≤ 9223372036854775807 ∧ Lim w' A1 us ∧ Plus w w' := by
  obtain ⟨rfl, rfl⟩ := hid.out
  exact rgood_c neg A xs n c w h.lim h.len (by have := h.few; omega) h.cap h.max
theorem Lim.lit2 (w : World) (g a b : Nat) (hg : g = w.heap.size) (ha : a < B) (hb : b < B) : Lim (w.alloc (.cells #[.int .u32 (a : Int), .int .u32 (b : Int)] 69)) (some ⟨g, 0, none⟩) [a, b] := by
  subst hg
  exact (Own.two w a b 69 _ _ rfl rfl ha hb).toLim
end Go.Proofs.YtakahpbondaidaaGreatDoor.Bg
