/- Contract: Clone; boxes that turn. Contracts: Cmp, Same, Neg. Contracts: Of, FromWord, AsUint. -/
import Derived.WalkSpells
import Derived.Test.YtakahpbondaidaaGreatDoorPZF
namespace Go.Proofs.YtakahpbondaidaaGreatDoor.Bg
open Go.RowKit


theorem Lim.news {w : World} {ad : Addr} {xs : List Nat} (h : Lim w (some ad) xs) : ∀ j u, (u32s xs)[j]? = some u → w.cell? (ad.add j) = some u := fun j u hj => by
  unfold u32s at hj
  rw [List.getElem?_map] at hj
  by_cases hlt : j < xs.length
  · rw [List.getElem?_eq_getElem hlt] at hj
    obtain ⟨ad', e, _, hc⟩ := h.2 (by omega)
    injection e with e
    subst e
    rw [hc j hlt, lim_in hlt]
    simpa using hj
  · rw [List.getElem?_eq_none (by omega)] at hj
    cases hj
theorem u32s_one (xs : List Nat) : ∀ u ∈ u32s xs, u.oneCell' = true := fun u hu => by
  obtain ⟨x, _, rfl⟩ := List.mem_map.1 hu
  rfl
theorem u32s_len (xs : List Nat) : (u32s xs).length = xs.length := by simp [u32s]
/-- A copy, in new memory. -/
def NewC (xs : List Nat) (w : World) (e : Ending) (w' : World) : Prop :=
  ∃ v, e = .returned v ∧ w'.ownsRow w.heap.size 69 1 v xs.length (u32s xs) ∧ Below w.heap.size w w'
theorem own_of_own {w : World} {b : Nat} {v : Value} {xs : List Nat} (ho : okL xs) (h : w.ownsRow b 69 1 v xs.length (u32s xs)) (h0 : 0 < xs.length) :
    ∃ g c, v = .slice (some ⟨g, 0, none⟩) xs.length c ∧ xs.length ≤ c ∧ c ≤ 9223372036854775807 ∧ b ≤ g ∧ Own w g xs := by
  rcases h.2 with ⟨_, e⟩ | ⟨g, cap, cur, rfl, hb, hg, hl, hm, hs, ht⟩
  · omega
  · refine ⟨g, cap, rfl, hl, by unfold maxLen at hm; exact hm, hb, ho, cur, 69, hg, fun j hj => ?_⟩
    have e : cur[j]? = cur.toList[j]? := by simp
    have e2 : (cur.toList.take (xs.length * 1))[j]? = cur.toList[j]? := by rw [List.getElem?_take, if_pos (by omega)]
    rw [e, ← e2, ht]
    unfold u32s
    rw [List.getElem?_map, List.getElem?_eq_getElem hj, lim_in hj]
    rfl

set_option maxRecDepth 100000 in
set_option maxHeartbeats 1000000 in
theorem clone_c (A : Option Addr) (xs : List Nat) (n c : Nat) (w : World) (h : Lim w A xs) (hn : n = xs.length) (hl : xs.length ≤ 1048576) :
    Calls Tryz.prog 102 #[.slice A n c] w (NewC xs w) := by
  subst hn
  obtain ⟨i0, hi, hz0, hz1, hz2⟩ := info_parts info53_
  have q22 : ∀ (w : World) (a : Option Addr) (n c n' c' : Nat), (binOp .eql 24 (.slice a n c) (.slice none n' c')).run Tryz.prog w = .ok (.bool a.isNone) w := fun w a n c n' c' => Lib.run_eql_slice_nil w _ _ a n c n' c' Tryz.underlying24
  have H := Lib.hid h
  rcases A with _ | ad
  · have h0 : xs = [] := by
      rcases xs with _ | ⟨x, xs⟩
      · rfl
      · obtain ⟨ad, e, _⟩ := h.2 (by simp)
        cases e
    subst h0
    clear h
    go_enter Tryz.func102, Tryz.ntmps102
    go_wp2
    go_ret
    exact ⟨_, rfl, World.ownsRow_nil _ _ _ _, Below.refl _ _⟩
  · clear h
    go_enter Tryz.func102, Tryz.ntmps102
    go_wp2_with (at_builtin; refine wpList_append_own _ rfl _ _ 24 rfl w.heap.size 69 i0 (.int .u32 0) 1 4 Tryz.underlying24 hi hz0 hz1 hz2 rfl (by decide) _ _ _ rfl (World.ownsRow_made w #[] 0 (Nat.le_refl _) (Nat.zero_le _) rfl) ad xs.length c (u32s xs) rfl (by rw [u32s_len, Nat.mul_one]) (H.out.alloc _).news (u32s_one xs) (by unfold maxLen; omega) (by omega) (by simp) ?_; intro v1 w1 hown1 hgr1 _; have HW1 := Lib.hid hown1; have HG1 := Lib.hid hgr1; clear hown1 hgr1)
    go_ret
    refine ⟨v1, rfl, by simpa using HW1.out, ((Below.refl _ w).alloc (Nat.le_refl _) _).grown HG1.out (by simp) (fun k hk => by have hk' : some w.heap.size = some k := hk; injection hk' with hk'; omega)⟩

/-! Boxes: blocks whose cells are a sign and a slice. They hold no limbs; they may turn. -/
def isBox (o : Obj) : Prop := ∃ b a n c t, o = .cells #[.bool b, .slice a n c] t
theorem isBox.mk (b : Bool) (a : Option Addr) (n c : Nat) (t : TypeId) : isBox (.cells #[.bool b, .slice a n c] t) := ⟨b, a, n, c, t, rfl⟩
theorem Lim.alt {W W' : World} {A : Option Addr} {xs : List Nat} (h : Lim W A xs) (D : Nat → Prop) (hs : W.heap.size ≤ W'.heap.size) (hD : ∀ g, D g → ∃ o, W.heap[g]? = some o ∧ isBox o) (ho : ∀ k, ¬ D k → W'.heap[k]? = W.heap[k]?) : Lim W' A xs := by
  refine ⟨h.1, fun h0 => ?_⟩
  obtain ⟨ad, rfl, hb, hc⟩ := h.2 h0
  have hne : ¬ D ad.block := fun e => by
    obtain ⟨o, h3, b, a, n, c, t, rfl⟩ := hD _ e
    have h1 := hc 0 h0
    have h2 : (ad.add 0) = ad := by unfold Addr.add; rw [if_pos rfl]
    rw [h2] at h1
    unfold World.cell? at h1
    rw [h3] at h1
    simp only at h1
    split at h1
    · cases h1
    · match hoff : ad.off with
      | 0 => rw [hoff] at h1; simp at h1
      | 1 => rw [hoff] at h1; simp at h1
      | k + 2 => rw [hoff] at h1; simp at h1
  refine ⟨ad, rfl, by omega, fun j hj => ?_⟩
  rw [← hc j hj]
  apply World.cell?_of_block
  rw [block_of_add, ho _ hne]
theorem heap_three (w : World) (o1 o2 o3 : Obj) (x : More) (k : Nat) : (_root_.Go.Proofs.YtakahpbondaidaaGreatDoor.plus (((w.alloc o1).alloc o2).alloc o3) x).heap[k]? = if k < w.heap.size then w.heap[k]? else (o1 :: o2 :: o3 :: x.blocks)[k - w.heap.size]? := by
  have e : (_root_.Go.Proofs.YtakahpbondaidaaGreatDoor.plus (((w.alloc o1).alloc o2).alloc o3) x).heap = w.heap ++ (o1 :: o2 :: o3 :: x.blocks).toArray := by
    unfold _root_.Go.Proofs.YtakahpbondaidaaGreatDoor.plus World.alloc
    apply Array.ext'
    simp
  rw [e]
  by_cases hk : k < w.heap.size
  · rw [Array.getElem?_append_left hk, if_pos hk]
  · rw [Array.getElem?_append_right (by omega), if_neg hk]
    simp
theorem heap_two (w : World) (o1 o2 : Obj) (x : More) (k : Nat) : (_root_.Go.Proofs.YtakahpbondaidaaGreatDoor.plus ((w.alloc o1).alloc o2) x).heap[k]? = if k < w.heap.size then w.heap[k]? else (o1 :: o2 :: x.blocks)[k - w.heap.size]? := by
  have e : (_root_.Go.Proofs.YtakahpbondaidaaGreatDoor.plus ((w.alloc o1).alloc o2) x).heap = w.heap ++ (o1 :: o2 :: x.blocks).toArray := by
    unfold _root_.Go.Proofs.YtakahpbondaidaaGreatDoor.plus World.alloc
    apply Array.ext'
    simp
  rw [e]
  by_cases hk : k < w.heap.size
  · rw [Array.getElem?_append_left hk, if_pos hk]
  · rw [Array.getElem?_append_right (by omega), if_neg hk]
    simp
theorem size_three (w : World) (o1 o2 o3 : Obj) (x : More) : (_root_.Go.Proofs.YtakahpbondaidaaGreatDoor.plus (((w.alloc o1).alloc o2).alloc o3) x).heap.size = w.heap.size + 3 + x.blocks.length := by
  rw [size_plus]; simp only [World.size_alloc]
theorem size_two (w : World) (o1 o2 : Obj) (x : More) : (_root_.Go.Proofs.YtakahpbondaidaaGreatDoor.plus ((w.alloc o1).alloc o2) x).heap.size = w.heap.size + 2 + x.blocks.length := by
  rw [size_plus]; simp only [World.size_alloc]
/-- Two boxes turn. -/
theorem Lim.box2 {w : World} {x : More} {A : Option Addr} {xs : List Nat} {o1 o2 p1 p2 : Obj} (h : Lim (_root_.Go.Proofs.YtakahpbondaidaaGreatDoor.plus ((w.alloc o1).alloc o2) x) A xs) (h1 : isBox o1) (h2 : isBox o2) : Lim (_root_.Go.Proofs.YtakahpbondaidaaGreatDoor.plus ((w.alloc p1).alloc p2) x) A xs := by
  refine h.alt (fun g => g = w.heap.size ∨ g = w.heap.size + 1) (by rw [size_two, size_two]; exact Nat.le_refl _) (fun g hg => ?_) (fun k hk => ?_)
  · rcases hg with rfl | rfl
    · exact ⟨o1, by rw [heap_two, if_neg (by omega), Nat.sub_self]; rfl, h1⟩
    · exact ⟨o2, by rw [heap_two, if_neg (by omega), Nat.add_sub_cancel_left]; rfl, h2⟩
  · rw [heap_two, heap_two]
    split
    · rfl
    · obtain ⟨j, hj⟩ : ∃ j, k - w.heap.size = j + 2 := ⟨k - w.heap.size - 2, by omega⟩
      rw [hj]
      rfl
/-- Three boxes turn. -/
theorem Lim.box3 {w : World} {x : More} {A : Option Addr} {xs : List Nat} {o1 o2 o3 p1 p2 p3 : Obj} (h : Lim (_root_.Go.Proofs.YtakahpbondaidaaGreatDoor.plus (((w.alloc o1).alloc o2).alloc o3) x) A xs) (h1 : isBox o1) (h2 : isBox o2) (h3 : isBox o3) : Lim (_root_.Go.Proofs.YtakahpbondaidaaGreatDoor.plus (((w.alloc p1).alloc p2).alloc p3) x) A xs := by
  refine h.alt (fun g => g = w.heap.size ∨ g = w.heap.size + 1 ∨ g = w.heap.size + 2) (by rw [size_three, size_three]; exact Nat.le_refl _) (fun g hg => ?_) (fun k hk => ?_)
  · rcases hg with rfl | rfl | rfl
    · exact ⟨o1, by rw [heap_three, if_neg (by omega), Nat.sub_self]; rfl, h1⟩
    · exact ⟨o2, by rw [heap_three, if_neg (by omega), Nat.add_sub_cancel_left]; rfl, h2⟩
    · exact ⟨o3, by rw [heap_three, if_neg (by omega), Nat.add_sub_cancel_left]; rfl, h3⟩
  · rw [heap_three, heap_three]
    split
    · rfl
    · obtain ⟨j, hj⟩ : ∃ j, k - w.heap.size = j + 3 := ⟨k - w.heap.size - 3, by omega⟩
      rw [hj]
      rfl
end Go.Proofs.YtakahpbondaidaaGreatDoor.Bg

namespace Go.Proofs.YtakahpbondaidaaGreatDoor.Bg
open Go.RowKit


/-- An argument: its limbs lie in memory. -/
structure Arg (w : World) (A : Option Addr) (xs : List Nat) (n c : Nat) : Prop where
  lim : Lim w A xs
  len : n = xs.length
  few : xs.length ≤ 1048576
  cap : xs.length ≤ c
  max : c ≤ 9223372036854775807
theorem Arg.plus {w w' : World} {A : Option Addr} {xs : List Nat} {n c : Nat} (h : Arg w A xs n c) (hp : Plus w w') : Arg w' A xs n c := ⟨h.lim.plus hp, h.len, h.few, h.cap, h.max⟩
theorem Lim.box22 {w : World} {x y : More} {A : Option Addr} {xs : List Nat} {o1 o2 p1 p2 : Obj} (h : Lim (_root_.Go.Proofs.YtakahpbondaidaaGreatDoor.plus (_root_.Go.Proofs.YtakahpbondaidaaGreatDoor.plus ((w.alloc o1).alloc o2) x) y) A xs) (h1 : isBox o1) (h2 : isBox o2) : Lim (_root_.Go.Proofs.YtakahpbondaidaaGreatDoor.plus (_root_.Go.Proofs.YtakahpbondaidaaGreatDoor.plus ((w.alloc p1).alloc p2) x) y) A xs := by
  rw [plus_add] at h ⊢
  exact h.box2 h1 h2
theorem Lim.box33 {w : World} {x y : More} {A : Option Addr} {xs : List Nat} {o1 o2 o3 p1 p2 p3 : Obj} (h : Lim (_root_.Go.Proofs.YtakahpbondaidaaGreatDoor.plus (_root_.Go.Proofs.YtakahpbondaidaaGreatDoor.plus (((w.alloc o1).alloc o2).alloc o3) x) y) A xs) (h1 : isBox o1) (h2 : isBox o2) (h3 : isBox o3) : Lim (_root_.Go.Proofs.YtakahpbondaidaaGreatDoor.plus (_root_.Go.Proofs.YtakahpbondaidaaGreatDoor.plus (((w.alloc p1).alloc p2).alloc p3) x) y) A xs := by
  rw [plus_add] at h ⊢
  exact h.box3 h1 h2 h3
/-- What 'valid' returns, with names for the sign and the limbs. -/
theorem valid_h {neg pb : Bool} {A : Option Addr} {xs us : List Nat} {n c : Nat} (hid : Hid (decide (bigI neg xs < 0) = pb ∧ dig (bigI neg xs).natAbs = us)) (w : World) (h : Arg w A xs n c) :
    Calls Tryz.prog 118 #[.agg #[.bool neg, .slice A n c]] w fun e w' => ∃ (A1 : Option Addr) (c1 : Nat), e = .returned (.agg #[.bool pb, .slice A1 us.length c1]) ∧ us.length ≤ c1 ∧ c1 ≤ 9223372036854775807 ∧ Lim w' A1 us ∧ Plus w w' := by
  obtain ⟨rfl, rfl⟩ := hid.out
  exact valid_c neg A xs n c w h.lim h.len (by have := h.few; omega) h.cap h.max
/-- The order of two integers. -/
def cmpZ (a b : Int) : Int := if a < b then -1 else if a = b then 0 else 1

set_option maxRecDepth 100000 in
set_option maxHeartbeats 4000000 in
theorem cmp_h (an bn pb qb : Bool) (A C : Option Addr) (xs ys us vs : List Nat) (n c m d : Nat) (w : World) (ha : Hid (Arg w A xs n c)) (hb : Hid (Arg w C ys m d))
    (h1 : Hid (decide (bigI an xs < 0) = pb ∧ dig (bigI an xs).natAbs = us)) (h2 : Hid (decide (bigI bn ys < 0) = qb ∧ dig (bigI bn ys).natAbs = vs)) (hu : us.length ≤ 8) (hv : vs.length ≤ 8) :
    Calls Tryz.prog 129 #[.agg #[.bool an, .slice A n c], .agg #[.bool bn, .slice C m d]] w fun e w' => e = .returned (.int .i64 (if pb then (if qb then cmpI (val vs) (val us) else -1) else if qb then 1 else cmpI (val us) (val vs))) ∧ Plus w w' := by
  go_enter Tryz.func129, Tryz.ntmps129
  go_upto_region 1 with fail
  go_cut [] (fun wx => ∃ A1 c1 C1 d1 x1 x2, wx = _root_.Go.Proofs.YtakahpbondaidaaGreatDoor.plus (_root_.Go.Proofs.YtakahpbondaidaaGreatDoor.plus ((w.alloc (.cells #[.bool pb, .slice A1 us.length c1] 26)).alloc (.cells #[.bool qb, .slice C1 vs.length d1] 26)) x1) x2 ∧ Lim wx A1 us ∧ Lim wx C1 vs)
  case first =>
    go_region_with (first | (go_at_call_of 118 (Value.agg #[.bool an, .slice A n c]); (with_reducible refine (valid_h h1 _ (ha.out.plus (by repeat' (first | exact Plus.refl _ | refine Plus.alloc ?_ _ | refine Plus.plus ?_ _ | refine Plus.drew ?_ | refine Plus.drewN ?_ _)))).mono ?_); rintro e w1 ⟨A1, c1, rfl, _, _, q3, ⟨x1, rfl⟩⟩; have Q3 := Lib.hid q3; clear q3) | (go_at_call_of 118 (Value.agg #[.bool bn, .slice C m d]); (with_reducible refine (valid_h h2 _ (hb.out.plus (by repeat' (first | exact Plus.refl _ | refine Plus.alloc ?_ _ | refine Plus.plus ?_ _ | refine Plus.drew ?_ | refine Plus.drewN ?_ _)))).mono ?_); rintro e w1 ⟨C1, d1, rfl, _, _, r3, ⟨y1, rfl⟩⟩; have R3 := Lib.hid r3; clear r3))
    all_goals
      go_wp2_with fail
      go_meet
      have Q4 := Q3.out
      have R4 := R3.out
      simp only [plus_drew] at Q4 R4
      refine ⟨A1, c1, C1, d1, _, _, rfl, ?_, ?_⟩
      all_goals first | with_reducible exact (Q4.box2 (isBox.mk _ _ _ _ _) (isBox.mk _ _ _ _ _)).grow _ | with_reducible exact Q4.box22 (isBox.mk _ _ _ _ _) (isBox.mk _ _ _ _ _) | with_reducible exact (R4.box2 (isBox.mk _ _ _ _ _) (isBox.mk _ _ _ _ _)).grow _ | with_reducible exact R4.box22 (isBox.mk _ _ _ _ _) (isBox.mk _ _ _ _ _)
  case rest =>
    obtain ⟨A1, c1, C1, d1, x1, x2, rfl, hL1, hL2⟩ := hcut
    have L1 := Lib.hid hL1
    have L2 := Lib.hid hL2
    clear hL1 hL2
    cases pb <;> cases qb
    all_goals
      go_wp2_with (first | (go_at_call_of 206 (Value.slice A1 us.length c1); (with_reducible refine (compare_i _ _ _ _ _ _ _ _ L1.out L2.out rfl (by omega) (by omega)).mono ?_); rintro e w1 ⟨rfl, rfl⟩) | (go_at_call_of 206 (Value.slice C1 vs.length d1); (with_reducible refine (compare_i _ _ _ _ _ _ _ _ L2.out L1.out rfl (by omega) (by omega)).mono ?_); rintro e w1 ⟨rfl, rfl⟩))
      go_ret
      refine ⟨rfl, ?_⟩
      repeat' (first | exact Plus.refl _ | refine Plus.alloc ?_ _ | refine Plus.plus ?_ _ | refine Plus.drew ?_ | refine Plus.drewN ?_ _)
theorem cmpZ_lt {a b : Int} (h : a < b) : cmpZ a b = -1 := by unfold cmpZ; rw [if_pos h]
theorem cmpZ_gt {a b : Int} (h : b < a) : cmpZ a b = 1 := by unfold cmpZ; rw [if_neg (by omega), if_neg (by omega)]
theorem cmpZ_self (a : Int) : cmpZ a a = 0 := by unfold cmpZ; rw [if_neg (by omega), if_pos rfl]
theorem cmp_is (a b : Int) : (if decide (a < 0) then (if decide (b < 0) then cmpI b.natAbs a.natAbs else -1) else if decide (b < 0) then 1 else cmpI a.natAbs b.natAbs) = cmpZ a b := by
  by_cases h1 : a < 0 <;> by_cases h2 : b < 0
  · rw [if_pos (decide_eq_true h1), if_pos (decide_eq_true h2)]
    rcases Int.lt_trichotomy a b with h | h | h
    · rw [cmpI_lt (by omega), cmpZ_lt h]
    · rw [h, cmpI_eq rfl, cmpZ_self]
    · rw [cmpI_gt (by omega), cmpZ_gt h]
  · rw [if_pos (decide_eq_true h1), if_neg (by simpa using h2), cmpZ_lt (by omega)]
  · rw [if_neg (by simpa using h1), if_pos (decide_eq_true h2), cmpZ_gt (by omega)]
  · rw [if_neg (by simpa using h1), if_neg (by simpa using h2)]
    rcases Int.lt_trichotomy a b with h | h | h
    · rw [cmpI_lt (by omega), cmpZ_lt h]
    · rw [h, cmpI_eq rfl, cmpZ_self]
    · rw [cmpI_gt (by omega), cmpZ_gt h]
theorem cmp_c {an bn : Bool} {A C : Option Addr} {xs ys : List Nat} {n c m d : Nat} (w : World) (ha : Arg w A xs n c) (hb : Arg w C ys m d) :
    Calls Tryz.prog 129 #[.agg #[.bool an, .slice A n c], .agg #[.bool bn, .slice C m d]] w fun e w' => e = .returned (.int .i64 (cmpZ (bigI an xs) (bigI bn ys))) ∧ Plus w w' := by
  have h := cmp_h an bn _ _ A C xs ys _ _ n c m d w (Lib.hid ha) (Lib.hid hb) (Lib.hid ⟨rfl, rfl⟩) (Lib.hid ⟨rfl, rfl⟩) (dig_len_le (bigI_abs ha.lim.1)) (dig_len_le (bigI_abs hb.lim.1))
  simp only [val_dig] at h
  rw [cmp_is] at h
  exact h
theorem cmpZ_eq (a b : Int) : (cmpZ a b == 0) = decide (a = b) := by
  unfold cmpZ
  split
  · have : a ≠ b := by omega
    simp [this]
  · split
    · rename_i h; simp [h]
    · rename_i h; simp [h]

set_option maxHeartbeats 1000000 in
theorem same_c {an bn : Bool} {A C : Option Addr} {xs ys : List Nat} {n c m d : Nat} (w : World) (ha : Arg w A xs n c) (hb : Arg w C ys m d) :
    Calls Tryz.prog 67 #[.agg #[.bool an, .slice A n c], .agg #[.bool bn, .slice C m d]] w fun e w' => e = .returned (.bool (decide (bigI an xs = bigI bn ys))) ∧ Plus w w' := by
  have HZ := Lib.hid (cmpZ_eq (bigI an xs) (bigI bn ys))
  have HA := Lib.hid ha
  have HB := Lib.hid hb
  clear ha hb
  go_enter Tryz.func67, Tryz.ntmps67
  go_wp2_with (go_at_call 129; (with_reducible refine (cmp_c _ (HA.out.plus (by repeat' (first | exact Plus.refl _ | refine Plus.alloc ?_ _ | refine Plus.plus ?_ _ | refine Plus.drew ?_ | refine Plus.drewN ?_ _))) (HB.out.plus (by repeat' (first | exact Plus.refl _ | refine Plus.alloc ?_ _ | refine Plus.plus ?_ _ | refine Plus.drew ?_ | refine Plus.drewN ?_ _)))).mono ?_); rintro e w1 ⟨rfl, ⟨x1, rfl⟩⟩)
  go_ret
  refine ⟨by rw [← HZ.out]; rfl, ?_⟩
  repeat' (first | exact Plus.refl _ | refine Plus.alloc ?_ _ | refine Plus.plus ?_ _ | refine Plus.drew ?_ | refine Plus.drewN ?_ _)

set_option maxRecDepth 100000 in
set_option maxHeartbeats 4000000 in
theorem neg_h (an pb : Bool) (A : Option Addr) (xs us : List Nat) (n c : Nat) (w : World) (ha : Hid (Arg w A xs n c))
    (h1 : Hid (decide (bigI an xs < 0) = pb ∧ dig (bigI an xs).natAbs = us)) (hu : us.length ≤ 8) :
    Calls Tryz.prog 110 #[.agg #[.bool an, .slice A n c]] w (RetBig (sgn (!pb) (val us)) w) := by
  go_enter Tryz.func110, Tryz.ntmps110
  go_wp2_with (go_at_call 118; (with_reducible refine (valid_h h1 _ (ha.out.plus (by repeat' (first | exact Plus.refl _ | refine Plus.alloc ?_ _ | refine Plus.plus ?_ _ | refine Plus.drew ?_ | refine Plus.drewN ?_ _)))).mono ?_); rintro e w1 ⟨A1, c1, rfl, _, _, q3, ⟨x1, rfl⟩⟩; have Q3 := Lib.hid q3; clear q3)
  go_upto_region 2 with fail
  have Q4 := Lib.hid (Q3.out.box2 (p1 := .cells #[.bool pb, .slice A1 us.length c1] 26) (p2 := .cells #[.bool false, .slice none 0 0] 26) (isBox.mk _ _ _ _ _) (isBox.mk _ _ _ _ _))
  clear Q3
  go_region_with (first | (go_at_call 102; (with_reducible refine (clone_c _ us _ _ _ (by first | exact Q4.out | exact Q4.out.drew) rfl (by omega)).mono ?_); rintro e w1 ⟨v1, rfl, hown1, hB1⟩; obtain ⟨A2, c2, rfl, q1, q2, q3⟩ := lim_of_own Q4.out.1 hown1; obtain ⟨x2, rfl⟩ := Plus.of_below hB1; have Q5 := Lib.hid q3; clear hown1 hB1 q3) | (go_at_call 103; (with_reducible refine (made_c _ _ us _ _ _ (by first | exact Q5.out | (have q := Q5.out; simp only [plus_drew] at q; exact q)) rfl q1 q2).mono ?_); rintro e w1 ⟨A3, c3, rfl, r1, r2, r3, ⟨x3, rfl⟩⟩; have R1 := Lib.hid r1; have R3 := Lib.hid r3; clear r1 r3))
  all_goals
    go_wp2_with fail
    go_returns
    refine ⟨A3, c3, rfl, R1.out, r2, ?_, ?_⟩
    · exact R3.out.res3
    · repeat' (first | exact Plus.refl _ | refine Plus.alloc ?_ _ | refine Plus.plus ?_ _ | refine Plus.drew ?_ | refine Plus.drewN ?_ _)
theorem sgn_turn (a : Int) : sgn (!decide (a < 0)) a.natAbs = -a := by
  by_cases h : a < 0
  · simp [h, sgn]; omega
  · simp [h, sgn]; omega
theorem neg_c {an : Bool} {A : Option Addr} {xs : List Nat} {n c : Nat} (w : World) (ha : Arg w A xs n c) :
    Calls Tryz.prog 110 #[.agg #[.bool an, .slice A n c]] w (RetBig (-(bigI an xs)) w) := by
  have h := neg_h an _ A xs _ n c w (Lib.hid ha) (Lib.hid ⟨rfl, rfl⟩) (dig_len_le (bigI_abs ha.lim.1))
  rw [val_dig, sgn_turn] at h
  exact h
end Go.Proofs.YtakahpbondaidaaGreatDoor.Bg

namespace Go.Proofs.YtakahpbondaidaaGreatDoor.Bg
open Go.RowKit


theorem split_i (v : Nat) (z : Int) (hz : z = v) (hv : v < B * B) (w : World) : Calls Tryz.prog 104 #[.int .u64 z] w (NewL 2 v w) := by
  subst hz
  exact split_c v hv w
/-- A number and an error. -/
def RetBigX (n er : Int) (w : World) (e : Ending) (w' : World) : Prop :=
  ∃ (A : Option Addr) (c : Nat), e = .returned (.tuple #[.agg #[.bool (decide (n < 0)), .slice A (dig n.natAbs).length c], .int .i64 er]) ∧ (dig n.natAbs).length ≤ c ∧ c ≤ 9223372036854775807 ∧ Lim w' A (dig n.natAbs) ∧ Plus w w'
theorem RetBigX.zero {er : Int} {w w' : World} (hp : Plus w w') : RetBigX 0 er w (.returned (.tuple #[.agg #[.bool false, .slice none 0 0], .int .i64 er])) w' := by
  refine ⟨none, 0, by rw [show (0 : Int).natAbs = 0 from rfl, dig_zero]; rfl, by rw [show (0 : Int).natAbs = 0 from rfl, dig_zero]; exact Nat.le_refl _, by omega, by rw [show (0 : Int).natAbs = 0 from rfl, dig_zero]; exact Lim.nil, hp⟩
theorem BB : B * B = 18446744073709551616 := rfl
theorem sgn_tr (m : Nat) : sgn true m = -(m : Int) := rfl
theorem sgn_fa (m : Nat) : sgn false m = (m : Int) := rfl

set_option maxRecDepth 100000 in
set_option maxHeartbeats 4000000 in
theorem of_c (n : Int) (h1 : -9223372036854775808 ≤ n) (h2 : n ≤ 9223372036854775807) (w : World) :
    Calls Tryz.prog 51 #[.int .i64 n] w (RetBig n w) := by
  by_cases h0 : n < 0
  all_goals
    go_enter Tryz.func51, Tryz.ntmps51
    go_wp2_with fail
    refine (split_i n.natAbs _ (by omega) (by rw [BB]; omega) _).mono ?_
    rintro e w1 ⟨g, os, rfl, _, q3, q4, q5, hB1⟩
    obtain ⟨x1, rfl⟩ := Plus.of_below hB1
    have Q3 := Lib.hid q3
    have Q4 := Lib.hid q4
    have Q5 := Lib.hid q5
    clear q3 q4 q5 hB1
    go_wp2_with fail
    refine (made_c _ _ os _ _ _ Q3.out.toLim rfl (Nat.le_refl _) (by have := Q5.out; omega)).mono ?_
    rintro e w3 ⟨A3, c3, rfl, r1, r2, r3, ⟨x5, rfl⟩⟩
    have HS : Hid (sgn (decide (n < 0)) (val os) = n) := Lib.hid (by rw [Q4.out]; by_cases h : n < 0 <;> simp [h, sgn] <;> omega)
    first | rw [← sgn_tr] at r1 | skip
    have R1 := Lib.hid r1
    have R3 := Lib.hid r3
    clear r1 r3
    go_wp2_with fail
    go_returns
    have hs := HS.out
    first | rw [decide_eq_true h0] at hs | rw [decide_eq_false (by omega : ¬ n < 0)] at hs
    have r1 := R1.out
    have r3 := R3.out
    rw [hs] at r1 r3 ⊢
    refine ⟨A3, c3, rfl, r1, r2, ?_, ?_⟩
    · exact r3.res2
    · repeat' (first | exact Plus.refl _ | refine Plus.alloc ?_ _ | refine Plus.plus ?_ _ | refine Plus.drew ?_ | refine Plus.drewN ?_ _)

end Go.Proofs.YtakahpbondaidaaGreatDoor.Bg
