/- The document's limbs: word, cmp, trim. -/
import Derived.Deep.OwnRows
import Derived.Test.YthaokkmbghgopaaC20
namespace Go.Proofs.Ythaokkmbghgopaa
open Go.RowKit


theorem rword_c (A : Option Addr) (xs : List Nat) (n c k : Nat) (i : Int) (w : World) (h : Lim w A xs) (hn : n = xs.length) (hi : i = k) :
    Calls Try.prog 76 #[.slice A n c, .int .i64 i] w fun e w' => e = .returned (.int .u64 (lim xs k : Nat)) ∧ w = w' := by
  subst hn hi
  have hl := lim_i h.1 k
  by_cases hlt : k < xs.length
  · obtain ⟨ad, rfl, hc⟩ := h.at_ hlt
    obtain ⟨v, hv⟩ : ∃ v, lim xs k = v := ⟨_, rfl⟩
    rw [hv] at hc hl ⊢
    obtain ⟨l0, l1⟩ := hl
    clear hv
    go_enter Try.func76, Try.ntmps76
    go_wp2
    go_ret
    exact ⟨by simp, rfl⟩
  · rw [lim_out (by omega)]
    go_enter Try.func76, Try.ntmps76
    go_wp2
    go_ret
    exact ⟨rfl, rfl⟩

set_option maxHeartbeats 2000000 in
theorem rcmp_c (A C : Option Addr) (xs ys : List Nat) (n c m d : Nat) (w : World) (h : Lim w A xs) (k : Lim w C ys) (hn : n = xs.length) (hm : m = ys.length) (hl : xs.length ≤ 1048576) (kl : ys.length ≤ 1048576) :
    Calls Try.prog 67 #[.slice A n c, .slice C m d] w fun e w' => e = .returned (.int .i64 (cmpI (val xs) (val ys))) ∧ w = w' := by
  subst hn hm
  by_cases hlt : xs.length < ys.length
  all_goals
    go_enter Try.func67, Try.ntmps67
    go_wp2
    go_loop [5, 6, 7] (fun s _ _ => ∃ m : Nat, m ≤ 1048576 ∧ s = .int .i64 (m - 1 : Int) ∧ CmpAt xs ys m) (fun s _ _ => (intOf s + 1).toNat)
    case atStart => first | exact ⟨ys.length, kl, rfl, CmpAt.top (by omega) (by omega)⟩ | exact ⟨xs.length, hl, rfl, CmpAt.top (by omega) (by omega)⟩
    case round =>
      obtain ⟨m, hm, rfl, hz⟩ := hrel
      rcases m with _ | m
      · have HE := Lib.hid (cmpI_eq hz.zero)
        go_wp2
        go_ret
        exact ⟨by rw [HE.out]; rfl, rfl⟩
      · have em : ((m + 1 : Nat) : Int) - 1 = m := by omega
        rw [em]
        have hx := rword_c A xs xs.length c m m w h rfl rfl
        have hy := rword_c C ys ys.length d m m w k rfl rfl
        obtain ⟨x, ex⟩ : ∃ x, lim xs m = x := ⟨_, rfl⟩
        obtain ⟨y, ey⟩ : ∃ y, lim ys m = y := ⟨_, rfl⟩
        rcases Nat.lt_trichotomy (lim xs m) (lim ys m) with hv | hv | hv
        · have HE := Lib.hid (cmpI_lt (hz.less h.1 hv))
          rw [ex, ey] at hv
          rw [ex] at hx
          rw [ey] at hy
          have b2 : (x : Int) < (y : Int) := by omega
          go_wp2_with (first | (go_at_call_of 76 (Value.slice A xs.length c); with_reducible refine hx.mono ?_; rintro e w1 ⟨rfl, rfl⟩) | (go_at_call_of 76 (Value.slice C ys.length d); with_reducible refine hy.mono ?_; rintro e w1 ⟨rfl, rfl⟩))
          go_ret
          exact ⟨by rw [HE.out]; rfl, rfl⟩
        · have HS := Lib.hid (hz.same hv)
          rw [ex, ey] at hv
          subst hv
          rw [ex] at hx
          rw [ey] at hy
          go_wp2_with (first | (go_at_call_of 76 (Value.slice A xs.length c); with_reducible refine hx.mono ?_; rintro e w1 ⟨rfl, rfl⟩) | (go_at_call_of 76 (Value.slice C ys.length d); with_reducible refine hy.mono ?_; rintro e w1 ⟨rfl, rfl⟩))
          go_round
          case rel => exact ⟨m, by omega, rfl, HS.out⟩
          case measure => simp [intOf]
        · have HE := Lib.hid (cmpI_gt (hz.swap.less k.1 hv))
          rw [ex, ey] at hv
          rw [ex] at hx
          rw [ey] at hy
          have b1 : ¬ (x : Int) < (y : Int) := by omega
          have b2 : (y : Int) < (x : Int) := by omega
          go_wp2_with (first | (go_at_call_of 76 (Value.slice A xs.length c); with_reducible refine hx.mono ?_; rintro e w1 ⟨rfl, rfl⟩) | (go_at_call_of 76 (Value.slice C ys.length d); with_reducible refine hy.mono ?_; rintro e w1 ⟨rfl, rfl⟩))
          go_ret
          exact ⟨by rw [HE.out]; rfl, rfl⟩

/-- A new slice of the limbs of V, without noughts above. -/
def RetL (V : Nat) (w : World) (e : Ending) (w' : World) : Prop :=
  ∃ (A : Option Addr) (c : Nat), e = .returned (.slice A (dig V).length c) ∧ (dig V).length ≤ c ∧ c ≤ 9223372036854775807 ∧ Lim w' A (dig V) ∧ Plus w w' ∧ (∀ ad, A = some ad → w.heap.size ≤ ad.block)
theorem news_lim {w : World} {ad : Addr} {xs : List Nat} (h : Lim w (some ad) xs) : ∀ j v, (u32s xs)[j]? = some v → w.cell? (ad.add j) = some v := fun j v hj => by
  unfold u32s at hj
  rw [List.getElem?_map] at hj
  have hlt : j < xs.length := by
    apply Nat.lt_of_not_le
    intro q
    rw [List.getElem?_eq_none q] at hj
    cases hj
  obtain ⟨ad', e, hc⟩ := h.at_ hlt
  obtain rfl := Option.some.inj e
  rw [List.getElem?_eq_getElem hlt] at hj
  rw [hc, ← hj, lim_in hlt]
  rfl
theorem lim_of_own' {w : World} {b : Nat} {v : Value} {os : List Nat} (ho : okL os) (h : w.ownsRow b 53 1 v os.length (u32s os)) : ∃ A c, v = .slice A os.length c ∧ os.length ≤ c ∧ c ≤ 9223372036854775807 ∧ Lim w A os ∧ ∀ ad, A = some ad → b ≤ ad.block := by
  obtain ⟨A, c, rfl, q1, q2, q3⟩ := lim_of_own ho h
  refine ⟨A, c, rfl, q1, q2, q3, fun ad e => ?_⟩
  subst e
  rcases h.2 with ⟨e, _⟩ | ⟨g, cap, cur, e, hb, _⟩
  · cases e
  · injection e with e1 _ _
    injection e1 with e1
    subst e1
    exact hb
theorem trim_done {w w1 : World} {xs : List Nat} {k : Nat} {v1 : Value} (hk : xs.take k = dig (val xs)) (hkl : k ≤ xs.length) (ho : okL xs) (h1 : w1.ownsRow w.heap.size 53 1 v1 (0 + k) (([] : List Value) ++ u32s (xs.take k))) (hg : (w.alloc (.cells #[] 53)).grownBy w1 (some w.heap.size)) : RetL (val xs) w (.returned v1) w1 := by
  have hl : (xs.take k).length = k := by rw [List.length_take]; omega
  rw [Nat.zero_add, List.nil_append, ← hl] at h1
  obtain ⟨A, c, rfl, q1, q2, q3, q4⟩ := lim_of_own' (ho.take k) (by rw [hl] at h1 ⊢; exact h1)
  rw [hk] at q1 q3 ⊢
  refine ⟨A, c, rfl, q1, q2, q3, .of_below ?_, q4⟩
  have hb : Below w.heap.size w (w.alloc (.cells #[] 53)) := (Below.refl _ w).alloc (Nat.le_refl _) _
  exact hb.grown hg (by simp) (fun j e => by injection e with e; omega)
set_option maxRecDepth 100000 in
set_option maxHeartbeats 2000000 in
theorem rtrim_c (A : Option Addr) (xs : List Nat) (n c : Nat) (w : World) (h : Lim w A xs) (hn : n = xs.length) (hl : xs.length ≤ c) (hc : c ≤ 9223372036854775807) (hs : xs.length ≤ 2097152) :
    Calls Try.prog 71 #[.slice A n c] w (RetL (val xs) w) := by
  subst hn
  obtain ⟨i0, hi, hz0, hz1, hz2⟩ := info_parts info53
  have H := Lib.hid h
  rcases A with _ | ad
  · have h0 : xs = [] := by
      rcases xs with _ | ⟨x, xs⟩
      · rfl
      · obtain ⟨ad, e, _⟩ := h.2 (by simp)
        cases e
    subst h0
    go_enter Try.func71, Try.ntmps71
    go_wp2
    go_loop [3] (fun s => s = .int .i64 0) (fun _ => 0)
    case atStart => rfl
    case round =>
      subst hrel
      go_wp2
      go_ret
      refine ⟨_, _, by rw [show val [] = 0 from rfl, dig_zero]; rfl, by rw [show val [] = 0 from rfl, dig_zero]; exact Nat.le_refl _, by decide, by rw [show val [] = 0 from rfl, dig_zero]; exact Lim.nil, (by repeat' (first | exact Plus.refl _ | refine Plus.alloc ?_ _ | refine Plus.plus ?_ _ | refine Plus.drew ?_ | refine Plus.drewN ?_ _)), fun ad e => by injection e with e; subst e; exact Nat.le_refl _⟩
  · go_enter Try.func71, Try.ntmps71
    go_wp2
    go_loop [3] (fun s => ∃ k : Nat, k ≤ xs.length ∧ s = .int .i64 k ∧ Zer xs k) (fun s => (intOf s).toNat)
    case atStart => exact ⟨xs.length, Nat.le_refl _, rfl, Zer.all xs⟩
    case round =>
      obtain ⟨k, hk, rfl, hz⟩ := hrel
      have hkc : (k : Int) ≤ (c : Int) := by omega
      have e0 : ad.add 0 = ad := by unfold Addr.add; rw [if_pos rfl]
      by_cases h0 : 0 < k
      · obtain ⟨ad', e, hcell⟩ := h.at_ (k := k - 1) (by omega)
        obtain rfl := Option.some.inj e
        have e1 : ((k : Int) - 1).toNat = k - 1 := by omega
        by_cases hv : lim xs (k - 1) = 0
        · have hb := cast_eq hv
          go_wp2
          go_round
          case rel => exact ⟨k - 1, by omega, by rw [show ((k - 1 : Nat) : Int) = (k : Int) - 1 by omega], Zer.down (by rw [show k - 1 + 1 = k by omega]; exact hz) hv⟩
          case measure => simp [intOf]; omega
        · have hb := cast_ne hv
          have HK := Lib.hid (trim_k h.1 hk hz (.inr hv))
          clear hz h
          go_wp2_with (at_builtin; refine wpList_append_own _ rfl _ _ 22 rfl w.heap.size 53 i0 (.int .u32 0) 1 4 Try.underlying22 hi hz0 hz1 hz2 rfl (by decide) _ _ _ rfl (World.ownsRow_made w #[] 0 (Nat.le_refl _) (Nat.zero_le _) rfl) ad k c (u32s (xs.take k)) rfl (by rw [u32s_len, List.length_take]; omega) (news_lim ((H.out.alloc _).take k)) (u32s_one _) (by unfold maxLen; omega) (by omega) (by simp) ?_; intro v1 w1 hown1 hgr1 _; have HW1 := Lib.hid hown1; have HG1 := Lib.hid hgr1; clear hown1 hgr1)
          go_ret
          exact trim_done HK.out hk H.out.1 HW1.out HG1.out
      · obtain rfl : k = 0 := by omega
        have HK := Lib.hid (trim_k h.1 hk hz (.inl rfl))
        clear hz h
        rw [show ((0 : Nat) : Int) = 0 from rfl]
        go_wp2_with (at_builtin; refine wpList_append_own _ rfl _ _ 22 rfl w.heap.size 53 i0 (.int .u32 0) 1 4 Try.underlying22 hi hz0 hz1 hz2 rfl (by decide) _ _ _ rfl (World.ownsRow_made w #[] 0 (Nat.le_refl _) (Nat.zero_le _) rfl) ad 0 c (u32s (xs.take 0)) rfl (by rw [u32s_len, List.length_take]; omega) (news_lim ((H.out.alloc _).take 0)) (u32s_one _) (by unfold maxLen; omega) (by omega) (by simp) ?_; intro v1 w1 hown1 hgr1 _; have HW1 := Lib.hid hown1; have HG1 := Lib.hid hgr1; clear hown1 hgr1)
        go_ret
        exact trim_done HK.out hk H.out.1 HW1.out HG1.out
end Go.Proofs.Ythaokkmbghgopaa
