/- The document's words of numbers and of BigInts, and back. -/
import Derived.WalkKit
import Derived.WalkSpells
import Derived.WalkLawsBesides
import Derived.Handy
import Derived.Deep.RegionHeld3
import Derived.Deep.DeepCutAuto
import Derived.Deep.QuietTactic
import Derived.BigQuiet
import Derived.Lib.Hide
import Derived.KernelRfl
import Derived.WalkMore
import Derived.Deep.LoopGhost
import Derived.Test.YtjojkogmbgppcaaC10
import Derived.Test.YtjojkogmbgppcaaGD5
import Derived.Test.YtjojkogmbgppcaaR2
namespace Go.Proofs.Ytjojkogmbgppcaa
open Go.RowKit


set_option maxRecDepth 100000 in
set_option maxHeartbeats 2000000 in
theorem refMay_c (k n : Int) (w : World) : Calls Try.prog 41 #[.agg #[.int .i64 k, .int .i64 n]] w fun e w' => e = .returned (.bool (mayN k n)) ∧ Plus w w' := by
  have hk : k = 0 ∨ ((k == 0) = false ∧ k < 1) ∨ ((k == 0) = false ∧ 1 ≤ k ∧ k ≤ 4) ∨ ((k == 0) = false ∧ 1 ≤ k ∧ 4 < k) := by
    simp only [beq_eq_false_iff_ne]
    omega
  rcases hk with rfl | ⟨h0, h1⟩ | ⟨h0, h1, h2⟩ | ⟨h0, h1, h2⟩
  · rw [mayN_0]
    by_cases a1 : -9007199254740991 ≤ n
    · have e1 : decide (-9007199254740991 ≤ n) = true := by simp; omega
      rw [e1, Bool.true_and]
      go_enter Try.func41, Try.ntmps41
      go_wp2_with fail
      go_ret
      exact ⟨rfl, (by repeat' (first | exact Plus.refl _ | refine Plus.alloc ?_ _ | refine Plus.plus ?_ _ | refine Plus.drew ?_ | refine Plus.drewN ?_ _))⟩
    · have e1 : decide (-9007199254740991 ≤ n) = false := by simp; omega
      rw [e1, Bool.false_and]
      go_enter Try.func41, Try.ntmps41
      go_wp2_with fail
      go_ret
      exact ⟨rfl, (by repeat' (first | exact Plus.refl _ | refine Plus.alloc ?_ _ | refine Plus.plus ?_ _ | refine Plus.drew ?_ | refine Plus.drewN ?_ _))⟩
  · rw [mayN_no n (by simp only [beq_eq_false_iff_ne] at h0; omega)]
    go_enter Try.func41, Try.ntmps41
    go_wp2_with fail
    go_ret
    exact ⟨rfl, (by repeat' (first | exact Plus.refl _ | refine Plus.alloc ?_ _ | refine Plus.plus ?_ _ | refine Plus.drew ?_ | refine Plus.drewN ?_ _))⟩
  · rw [mayN_k n (by simp only [beq_eq_false_iff_ne] at h0; omega)]
    go_enter Try.func41, Try.ntmps41
    go_wp2_with fail
    go_ret
    exact ⟨rfl, (by repeat' (first | exact Plus.refl _ | refine Plus.alloc ?_ _ | refine Plus.plus ?_ _ | refine Plus.drew ?_ | refine Plus.drewN ?_ _))⟩
  · rw [mayN_no n (by simp only [beq_eq_false_iff_ne] at h0; omega)]
    go_enter Try.func41, Try.ntmps41
    go_wp2_with fail
    go_ret
    exact ⟨rfl, (by repeat' (first | exact Plus.refl _ | refine Plus.alloc ?_ _ | refine Plus.plus ?_ _ | refine Plus.drew ?_ | refine Plus.drewN ?_ _))⟩
def MyN (k n : Int) (b : Bool) : Prop := mayN k n = b
theorem refMay_n {k n : Int} {b : Bool} (h : Hid (MyN k n b)) (w : World) : Calls Try.prog 41 #[.agg #[.int .i64 k, .int .i64 n]] w fun e w' => e = .returned (.bool b) ∧ Plus w w' := by
  obtain rfl := h.out
  exact refMay_c k n w
def MkN (s x r : Nat) : Prop := msk s x = r ∧ (s = 0 ∨ s = 1 ∨ s = 2 ∨ s = 4 ∨ s = 8) ∧ x < 18446744073709551616
theorem refMask_n {s x r : Nat} (h : Hid (MkN s x r)) (w : World) : Calls Try.prog 42 #[.int .i64 (s : Int), .int .u64 (x : Int)] w fun e w' => e = .returned (.int .u64 (r : Int)) ∧ Plus w w' := by
  obtain ⟨rfl, h1, h2⟩ := h.out
  exact refMask_c s x w h1 h2
theorem same_num (a b : Int) (w : World) : Calls Try.prog 27 #[.agg #[.int .i64 a, .int .i64 b], .agg #[.int .i64 a, .int .i64 b]] w fun e w' => e = .returned (.bool true) ∧ Plus w w' := by
  go_enter Try.func27, Try.ntmps27
  go_wp2_with fail
  go_ret
  exact ⟨rfl, (by repeat' (first | exact Plus.refl _ | refine Plus.alloc ?_ _ | refine Plus.plus ?_ _ | refine Plus.drew ?_ | refine Plus.drewN ?_ _))⟩
set_option maxRecDepth 100000 in
set_option maxHeartbeats 2000000 in
theorem same_limbs (A C : Option Addr) (us : List Nat) (n c d : Nat) (w : World) (h : Bg.Lim w A us) (k : Bg.Lim w C us) (hn : n = us.length) (hl : n ≤ 1048576) :
    Calls Try.prog 45 #[.slice A n c, .slice C n d] w fun e w' => e = .returned (.bool true) ∧ Plus w w' := by
  have b1 : ((n : Int) != (n : Int)) = false := by simp
  go_enter Try.func45, Try.ntmps45
  go_wp2
  go_loopw [5] (fun s5 wr => (∃ j : Nat, j ≤ n ∧ s5 = .int .i64 j) ∧ Plus w wr) (fun s5 _ => ((n : Int) - intOf s5).toNat)
  case atStart => exact ⟨⟨0, by omega, rfl⟩, Plus.refl _⟩
  case round =>
    obtain ⟨⟨j, hj, rfl⟩, hp⟩ := hrel
    by_cases hlt : j < n
    · have hA : Bg.Lim wr A us := h.below hp.below
      have hC : Bg.Lim wr C us := k.below hp.below
      obtain ⟨a1, rfl, e1⟩ := hA.at_ (k := j) (by omega)
      obtain ⟨a2, rfl, e2⟩ := hC.at_ (k := j) (by omega)
      have HP := Lib.hid hp
      obtain ⟨v, hv⟩ : ∃ v, Bg.lim us j = v := ⟨_, rfl⟩
      rw [hv] at e1 e2
      clear hA hC hp hv
      have hj2 : (j : Int) ≤ 1048576 := by omega
      go_wp2_with fail
      go_quiet (fail)
      go_wp2_with fail
      go_roundw
      case rel => exact ⟨⟨j + 1, hlt, by rw [show ((j + 1 : Nat) : Int) = (j : Int) + 1 by omega]⟩, HP.out.drewN _⟩
      case measure => simp [intOf]; omega
    · obtain rfl : j = n := by omega
      go_wp2_with fail
      go_ret
      exact ⟨rfl, hp⟩
set_option maxRecDepth 100000 in
set_option maxHeartbeats 2000000 in
theorem same_big (p : Bool) (A C : Option Addr) (us : List Nat) (n c d : Nat) (w : World) (h : Hid (Bg.Lim w A us)) (k : Hid (Bg.Lim w C us)) (hn : Hid (n = us.length ∧ n ≤ 1048576)) :
    Calls Try.prog 30 #[.agg #[.bool p, .slice A n c], .agg #[.bool p, .slice C n d]] w fun e w' => e = .returned (.bool true) ∧ Plus w w' := by
  have hh := fun (o1 o2 : Obj) => same_limbs A C us n c d ((w.alloc o1).alloc o2) ((h.out.alloc o1).alloc o2) ((k.out.alloc o1).alloc o2) hn.out.1 hn.out.2
  go_enter Try.func30, Try.ntmps30
  go_wp2_with fail
  refine (hh _ _).mono ?_
  rintro e w1 ⟨rfl, ⟨x1, rfl⟩⟩
  go_wp2_with fail
  go_ret
  exact ⟨rfl, (by repeat' (first | exact Plus.refl _ | refine Plus.alloc ?_ _ | refine Plus.plus ?_ _ | refine Plus.drew ?_ | refine Plus.drewN ?_ _))⟩
set_option maxRecDepth 100000 in
set_option maxHeartbeats 2000000 in
theorem refFromBig_n {k : Int} {b : Bool} {A : Option Addr} {xs : List Nat} {n c r : Nat} (h : Hid (FbN k b xs r)) (w : World) (ha : Hid (Bg.Arg w A xs n c)) :
    Calls Try.prog 26 #[.int .i64 k, .agg #[.bool b, .slice A n c]] w fun e w' => e = .returned (.int .u64 (r : Int)) ∧ Plus w w' := by
  obtain rfl := h.out
  have hg := refIsBig_c k
  unfold fbW
  by_cases hb : bigK k = true
  · rw [hb] at hg
    rw [if_pos hb]
    have hw := fun (w1 : World) (h1 : Plus w w1) => Bg.rbWord_c (an := b) w1 (ha.out.plus h1)
    obtain ⟨a, hx⟩ : ∃ a, Bg.wordR (Bg.bigI b xs) = a := ⟨_, rfl⟩
    rw [hx] at hw ⊢
    clear hx
    go_enter Try.func26, Try.ntmps26
    go_wp2_with fail
    with_reducible refine (hg _).mono ?_
    rintro e w1 ⟨rfl, ⟨x1, rfl⟩⟩
    go_wp2_with fail
    with_reducible refine (hw _ (by repeat' (first | exact Plus.refl _ | refine Plus.alloc ?_ _ | refine Plus.plus ?_ _ | refine Plus.drew ?_ | refine Plus.drewN ?_ _))).mono ?_
    rintro e w1 ⟨rfl, ⟨x2, rfl⟩⟩
    go_wp2_with fail
    go_ret
    exact ⟨rfl, (by repeat' (first | exact Plus.refl _ | refine Plus.alloc ?_ _ | refine Plus.plus ?_ _ | refine Plus.drew ?_ | refine Plus.drewN ?_ _))⟩
  · rw [if_neg hb]
    rw [show bigK k = false by simpa using hb] at hg
    go_enter Try.func26, Try.ntmps26
    go_wp2_with fail
    with_reducible refine (hg _).mono ?_
    rintro e w1 ⟨rfl, ⟨x1, rfl⟩⟩
    go_wp2_with fail
    go_ret
    exact ⟨rfl, (by repeat' (first | exact Plus.refl _ | refine Plus.alloc ?_ _ | refine Plus.plus ?_ _ | refine Plus.drew ?_ | refine Plus.drewN ?_ _))⟩
theorem rfromWord_i (x : Nat) (s : Bool) (hx : x < 18446744073709551616) (p : Bool) (us : List Nat) (z : Int) (hz : z = if s = true ∧ 9223372036854775808 ≤ x then (x : Int) - 18446744073709551616 else x) (hn : Hid (decide (z < 0) = p ∧ Bg.dig z.natAbs = us)) (w : World) :
    Calls Try.prog 47 #[.int .u64 (x : Int), .bool s] w fun e w' => ∃ (A : Option Addr) (c : Nat), e = .returned (.agg #[.bool p, .slice A us.length c]) ∧ us.length ≤ c ∧ c ≤ 9223372036854775807 ∧ Bg.Lim w' A us ∧ Plus w w' := by
  obtain ⟨rfl, rfl⟩ := hn.out
  subst hz
  exact Bg.rfromWord_c x s hx w
set_option maxRecDepth 100000 in
set_option maxHeartbeats 2000000 in
theorem refToBig_n {k : Int} {x : Nat} {p : Bool} {us : List Nat} (h : Hid (TbN k x p us)) (w : World) :
    Calls Try.prog 32 #[.int .i64 k, .int .u64 (x : Int)] w fun e w' => ∃ (A : Option Addr) (c : Nat), e = .returned (.agg #[.bool p, .slice A us.length c]) ∧ Bg.Arg w' A us us.length c ∧ Plus w w' := by
  have hg := refIsBig_c k
  have h3 := h.out.2.2
  by_cases hb : bigK k = true
  · obtain ⟨q1, q2, _⟩ := h.out
    have hlen : us.length ≤ 8 := by
      rw [← q2]
      refine Bg.dig_len_le ?_
      have hB : Bg.B ^ 8 = 115792089237316195423570985008687907853269984665640564039457584007913129639936 := by decide
      unfold tbN
      rw [if_pos hb, hB]
      split <;> omega
    have hw := fun (w : World) => rfromWord_i x (k == 7) h3 p us (tbN k x) (by unfold tbN; rw [if_pos hb]; simp) (Lib.hid ⟨q1, q2⟩) w
    rw [hb] at hg
    clear q1 q2
    have H3 := Lib.hid h3
    clear h3
    go_enter Try.func32, Try.ntmps32
    go_wp2_with fail
    with_reducible refine (hg _).mono ?_
    rintro e w1 ⟨rfl, ⟨x1, rfl⟩⟩
    go_wp2_with fail
    with_reducible refine (hw _).mono ?_
    rintro e w1 ⟨A, c, rfl, a1, a2, a3, ⟨x2, rfl⟩⟩
    have HQ := Lib.hid a3
    clear a3
    go_wp2_with fail
    go_returns
    refine ⟨A, c, rfl, ⟨?_, rfl, by omega, a1, a2⟩, (by repeat' (first | exact Plus.refl _ | refine Plus.alloc ?_ _ | refine Plus.plus ?_ _ | refine Plus.drew ?_ | refine Plus.drewN ?_ _))⟩
    have q := HQ.out
    rw [Bg.plus_add] at q ⊢
    exact q.res
  · have hb' : bigK k = false := by simpa using hb
    have e0 : tbN k x = 0 := by unfold tbN; rw [if_neg hb]
    obtain ⟨q1, q2, _⟩ := h.out
    rw [e0] at q1 q2
    rw [show (0 : Int).natAbs = 0 from rfl, Bg.dig_zero] at q2
    rw [show decide ((0 : Int) < 0) = false from rfl] at q1
    subst q1 q2
    rw [hb'] at hg
    go_enter Try.func32, Try.ntmps32
    go_wp2_with fail
    with_reducible refine (hg _).mono ?_
    rintro e w1 ⟨rfl, ⟨x1, rfl⟩⟩
    go_wp2_with fail
    go_returns
    exact ⟨none, 0, rfl, ⟨Bg.Lim.nil, rfl, by decide, by decide, by decide⟩, (by repeat' (first | exact Plus.refl _ | refine Plus.alloc ?_ _ | refine Plus.plus ?_ _ | refine Plus.drew ?_ | refine Plus.drewN ?_ _))⟩


theorem fnW_0 {k : Int} (kk n : Int) (h : szK k = 0 ∨ bigK k = true ∨ mayN kk n = false ∨ kk ≠ 0) : fnW k kk n = 0 := by
  unfold fnW
  split
  · rfl
  · rcases h with h | h | h | h
    · rw [h, msk_0]
    · contradiction
    · have : wN kk n = 0 := by
        unfold wN vK
        rw [h]
        rfl
      rw [this]
      exact Nat.zero_mod _
    · have : wN kk n = 0 := by
        unfold wN vK
        by_cases hm : mayN kk n = true
        · rw [if_pos hm, if_neg h]
        · rw [if_neg hm, if_neg (by decide)]
      rw [this]
      exact Nat.zero_mod _
theorem fnW_y {k n : Int} {s x : Nat} (hs : szK k = s) (h4 : s = 1 ∨ s = 2 ∨ s = 4) (hb : bigK k = false) (hm : mayN 0 n = true) (hx : (x : Int) = n % 18446744073709551616) : msk s x = fnW k 0 n := by
  have hw : wN 0 n = (n % 4294967296).toNat := by
    unfold wN vK vN
    rw [if_pos hm, if_pos hm, if_pos rfl]
  unfold fnW
  rw [hb, if_neg (by decide), hs, hw]
  rcases h4 with rfl | rfl | rfl
  · rw [msk_1, msk_1]; omega
  · rw [msk_2, msk_2]; omega
  · rw [msk_4, msk_4]; omega
set_option maxRecDepth 100000 in
set_option maxHeartbeats 4000000 in
theorem refFromNum_n {k kk n : Int} {r : Nat} (h : Hid (FnN k kk n r)) (w : World) : Calls Try.prog 24 #[.int .i64 k, .agg #[.int .i64 kk, .int .i64 n]] w fun e w' => e = .returned (.int .u64 (r : Int)) ∧ Plus w w' := by
  obtain rfl := h.out
  clear h
  obtain ⟨s, hs⟩ : ∃ s, szK k = s := ⟨_, rfl⟩
  have hsn := Lib.hid (show SzN k s from hs)
  by_cases h0 : s = 0
  · rw [fnW_0 kk n (.inl (hs.trans h0))]
    subst h0
    go_enter Try.func24, Try.ntmps24
    go_wp2_with fail
    with_reducible refine (refSize_n hsn _).mono ?_
    rintro e w1 ⟨rfl, ⟨x1, rfl⟩⟩
    go_wp2_with fail
    go_ret
    exact ⟨rfl, (by repeat' (first | exact Plus.refl _ | refine Plus.alloc ?_ _ | refine Plus.plus ?_ _ | refine Plus.drew ?_ | refine Plus.drewN ?_ _))⟩
  have hs0 : ((s : Int) == 0) = false := by simp [h0]
  by_cases hb : bigK k = true
  · rw [fnW_0 kk n (.inr (.inl hb))]
    have hg := Lib.hid (show BgN k true from hb)
    go_enter Try.func24, Try.ntmps24
    go_wp2_with fail
    with_reducible refine (refSize_n hsn _).mono ?_
    rintro e w1 ⟨rfl, ⟨x1, rfl⟩⟩
    go_wp2_with fail
    with_reducible refine (refIsBig_n hg _).mono ?_
    rintro e w1 ⟨rfl, ⟨x2, rfl⟩⟩
    go_wp2_with fail
    go_ret
    exact ⟨rfl, (by repeat' (first | exact Plus.refl _ | refine Plus.alloc ?_ _ | refine Plus.plus ?_ _ | refine Plus.drew ?_ | refine Plus.drewN ?_ _))⟩
  have hb' : bigK k = false := by simpa using hb
  have hg := Lib.hid (show BgN k false from hb')
  by_cases hm : mayN kk n = true
  · have hy := Lib.hid (show MyN kk n true from hm)
    by_cases hk : kk = 0
    · subst hk
      obtain ⟨x, hx⟩ : ∃ x : Nat, (x : Int) = n % 18446744073709551616 := ⟨(n % 18446744073709551616).toNat, by omega⟩
      have h4 : s = 1 ∨ s = 2 ∨ s = 4 := by
        rcases szK_cases k with q | q | q | q | q
        · omega
        · omega
        · omega
        · omega
        · exfalso
          have : 1 ≤ k ∧ k ≤ 8 := by
            apply Decidable.byContradiction
            intro h
            rw [show szK k = 0 from if_neg h] at q
            omega
          have h6 : k = 1 ∨ k = 2 ∨ k = 3 ∨ k = 4 ∨ k = 5 ∨ k = 6 ∨ k = 7 ∨ k = 8 := by omega
          rcases h6 with rfl | rfl | rfl | rfl | rfl | rfl | rfl | rfl <;> first | (exact absurd q (by decide)) | (exact absurd hb' (by decide))
      have hmk := Lib.hid (show MkN s x (fnW k 0 n) from ⟨fnW_y hs h4 hb' hm hx, by omega, by omega⟩)
      have hw : IntKind.u64.wrap n = (x : Int) := by rw [IntKind.wrap_u64, hx]
      obtain ⟨r, hr⟩ : ∃ r, fnW k 0 n = r := ⟨_, rfl⟩
      rw [hr] at hmk ⊢
      clear hr hx hs hm hb hb' h4
      go_enter Try.func24, Try.ntmps24
      go_wp2_with fail
      with_reducible refine (refSize_n hsn _).mono ?_
      rintro e w1 ⟨rfl, ⟨x1, rfl⟩⟩
      go_wp2_with fail
      with_reducible refine (refIsBig_n hg _).mono ?_
      rintro e w1 ⟨rfl, ⟨x2, rfl⟩⟩
      go_wp2_with fail
      with_reducible refine (refMay_n hy _).mono ?_
      rintro e w1 ⟨rfl, ⟨x3, rfl⟩⟩
      go_wp2_with fail
      refine wp_region_plus (by kernel_rfl) (by kernel_rfl) ?_
      repeat (go_big_quiet_step ((first | (go_at_call 13; with_reducible exact calls_plus (refSize_n hsn _)) | (go_at_call 42; with_reducible exact calls_plus (refMask_n hmk _)))))
      rintro w2 ⟨z2, rfl⟩
      go_wp2_with fail
      go_ret
      exact ⟨rfl, (by repeat' (first | exact Plus.refl _ | refine Plus.alloc ?_ _ | refine Plus.plus ?_ _ | refine Plus.drew ?_ | refine Plus.drewN ?_ _))⟩
    · rw [fnW_0 kk n (.inr (.inr (.inr hk)))]
      have hk' : (kk != 0) = true := by simp [hk]
      go_enter Try.func24, Try.ntmps24
      go_wp2_with fail
      with_reducible refine (refSize_n hsn _).mono ?_
      rintro e w1 ⟨rfl, ⟨x1, rfl⟩⟩
      go_wp2_with fail
      with_reducible refine (refIsBig_n hg _).mono ?_
      rintro e w1 ⟨rfl, ⟨x2, rfl⟩⟩
      go_wp2_with fail
      with_reducible refine (refMay_n hy _).mono ?_
      rintro e w1 ⟨rfl, ⟨x3, rfl⟩⟩
      go_wp2_with fail
      go_ret
      exact ⟨rfl, (by repeat' (first | exact Plus.refl _ | refine Plus.alloc ?_ _ | refine Plus.plus ?_ _ | refine Plus.drew ?_ | refine Plus.drewN ?_ _))⟩
  · have hm' : mayN kk n = false := by simpa using hm
    rw [fnW_0 kk n (.inr (.inr (.inl hm')))]
    have hy := Lib.hid (show MyN kk n false from hm')
    go_enter Try.func24, Try.ntmps24
    go_wp2_with fail
    with_reducible refine (refSize_n hsn _).mono ?_
    rintro e w1 ⟨rfl, ⟨x1, rfl⟩⟩
    go_wp2_with fail
    with_reducible refine (refIsBig_n hg _).mono ?_
    rintro e w1 ⟨rfl, ⟨x2, rfl⟩⟩
    go_wp2_with fail
    with_reducible refine (refMay_n hy _).mono ?_
    rintro e w1 ⟨rfl, ⟨x3, rfl⟩⟩
    go_wp2_with fail
    go_ret
    exact ⟨rfl, (by repeat' (first | exact Plus.refl _ | refine Plus.alloc ?_ _ | refine Plus.plus ?_ _ | refine Plus.drew ?_ | refine Plus.drewN ?_ _))⟩
end Go.Proofs.Ytjojkogmbgppcaa
