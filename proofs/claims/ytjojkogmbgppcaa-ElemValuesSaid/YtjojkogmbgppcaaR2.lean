/- The document's words and bytes. -/
import Derived.WalkKit
import Derived.WalkSpells
import Derived.WalkLawsBesides
import Derived.Handy
import Derived.Deep.RegionHeld3
import Derived.Deep.DeepCutAuto
import Derived.Deep.QuietTactic
import Derived.BigQuiet
import Derived.Lib.Hide
import Derived.KernelRfl
import Derived.WalkMore
import Derived.Deep.LoopGhost
import Derived.Test.YtjojkogmbgppcaaA1
import Derived.Test.YtjojkogmbgppcaaM1
import Derived.Test.YtjojkogmbgppcaaR1
namespace Go.Proofs.Ytjojkogmbgppcaa
open Go.RowKit


set_option maxRecDepth 100000 in
theorem refIsBig_c (k : Int) (w : World) : Calls Try.prog 18 #[.int .i64 k] w fun e w' => e = .returned (.bool (bigK k)) ∧ Plus w w' := by
  by_cases h7 : k = 7
  · subst h7
    go_enter Try.func18, Try.ntmps18
    go_wp2_with fail
    go_ret
    exact ⟨rfl, (by repeat' (first | exact Plus.refl _ | refine Plus.alloc ?_ _ | refine Plus.plus ?_ _ | refine Plus.drew ?_ | refine Plus.drewN ?_ _))⟩
  · have h : (k == 7) = false := by simp [h7]
    have hb : bigK k = (k == 8) := by simp [bigK, h7]
    rw [hb]
    go_enter Try.func18, Try.ntmps18
    go_wp2_with fail
    go_ret
    exact ⟨by simp, (by repeat' (first | exact Plus.refl _ | refine Plus.alloc ?_ _ | refine Plus.plus ?_ _ | refine Plus.drew ?_ | refine Plus.drewN ?_ _))⟩
theorem refIsBig_n {k : Int} {b : Bool} (h : Hid (BgN k b)) (w : World) : Calls Try.prog 18 #[.int .i64 k] w fun e w' => e = .returned (.bool b) ∧ Plus w w' := by
  obtain rfl := h.out
  exact refIsBig_c k w

theorem wd_drop {xs : List Nat} {j : Nat} (h : j < xs.length) : wd (xs.drop j) = xs.getD j 0 + 256 * wd (xs.drop (j + 1)) := by
  rw [List.drop_eq_getElem_cons h, wd, List.getD_eq_getElem?_getD, List.getElem?_eq_getElem h]
  rfl
theorem wd_drop_lt {xs : List Nat} {j : Nat} (h : ∀ x ∈ xs, x < 256) : wd (xs.drop j) < 2 ^ (8 * (xs.length - j)) := by
  have := wd_lt (xs.drop j) fun x hx => h x (List.mem_of_mem_drop hx)
  rwa [List.length_drop] at this
def RwRel (xs : List Nat) (w : World) (s3 s4 : Value) (wr : World) : Prop := ∃ j : Nat, j ≤ xs.length ∧ s4 = .int .i64 ((j : Int) - 1) ∧ s3 = .int .u64 ((wd (xs.drop j) : Nat) : Int) ∧ wr = w
set_option maxRecDepth 100000 in
set_option maxHeartbeats 2000000 in
theorem refWord_c (A : Option Addr) (xs : List Nat) (n c : Nat) (w : World) (h : Hid (Ar .u8 256 w A xs n c)) (hn : n ≤ 8) : Calls Try.prog 15 #[.slice A n c] w fun e w' => e = .returned (.int .u64 ((wd xs : Nat) : Int)) ∧ Plus w w' := by
  have HN := Lib.hid h.out.len
  have hn8 : (n : Int) ≤ 8 := by omega
  go_enter Try.func15, Try.ntmps15
  go_wp2_with fail
  go_loopw [3, 4] (RwRel xs w) (fun _ s4 _ => (intOf s4 + 1).toNat)
  case atStart => exact ⟨n, by rw [HN.out]; exact Nat.le_refl _, by simp, by rw [HN.out, List.drop_length]; rfl, rfl⟩
  case round =>
    obtain ⟨j, hj, rfl, rfl, rfl⟩ := hrel
    rw [← HN.out] at hj
    by_cases h0 : j = 0
    · subst h0
      go_wp2_with fail
      go_ret
      exact ⟨rfl, Plus.refl _⟩
    · obtain ⟨i, rfl⟩ : ∃ i, j = i + 1 := ⟨j - 1, by omega⟩
      have hl : i < xs.length := by rw [← HN.out]; omega
      obtain ⟨g, o, hA, hgl, hat⟩ := (h.out.rd).at_ hl
      subst hA
      have hc := hat i hl
      obtain ⟨v, hv⟩ : ∃ v, xs.getD i 0 = v := ⟨_, rfl⟩
      have hd := wd_drop hl
      have hdl := wd_drop_lt (xs := xs) (j := i + 1) h.out.bd
      have hp : 2 ^ (8 * (xs.length - (i + 1))) ≤ 2 ^ 56 := Nat.pow_le_pow_right (by decide) (by rw [← HN.out]; omega)
      obtain ⟨a, ha⟩ : ∃ a, wd (xs.drop (i + 1)) = a := ⟨_, rfl⟩
      rw [ha] at hd hdl ⊢
      rw [hv] at hc hd
      have hvb : (v : Int) < 256 := by
        have := h.out.getD_lt (by decide) i
        omega
      have hab : (a : Int) < 72057594037927936 := by omega
      have e1 : (((i + 1 : Nat) : Int) - 1) = (i : Int) := by omega
      rw [e1]
      have hi : (i : Int) < (n : Int) := by omega
      have hi8 : (i : Int) ≤ 7 := by omega
      have HD := Lib.hid hd
      have HAT := Lib.hid hat
      have e2 : intOf (Value.int .i64 (i : Int)) = (i : Int) := rfl
      have HV := Lib.hid hv
      have HA := Lib.hid ha
      clear hd hat hdl hp hv ha hj h0 e1
      go_wp2_with fail
      go_roundw
      case rel => exact ⟨i, by rw [← HN.out]; omega, rfl, by rw [HD.out]; congr 1; omega, rfl⟩
      case measure => simp [intOf]
theorem refWord_n {A : Option Addr} {xs : List Nat} {n c r : Nat} (hr : Hid (wd xs = r)) (w : World) (h : Hid (Ar .u8 256 w A xs n c)) (hn : n ≤ 8) : Calls Try.prog 15 #[.slice A n c] w fun e w' => e = .returned (.int .u64 (r : Int)) ∧ Plus w w' := by
  obtain rfl := hr.out
  exact refWord_c A xs n c w h hn

def B4Rel (s x : Nat) (w : World) (s1 s5 s6 : Value) (wr : World) : Prop := ∃ j : Nat, j ≤ s ∧ s6 = .int .i64 (j : Int) ∧ s1 = .int .u64 ((x / 2 ^ (8 * j) : Nat) : Int) ∧ wr.ownsRow w.heap.size 5 1 s5 (bs j x).length (vals .u8 (bs j x)) ∧ Below w.heap.size w wr
set_option maxRecDepth 100000 in
set_option maxHeartbeats 4000000 in
theorem refBytes4_c (s x : Nat) (w : World) (hs : s ≤ 8) (hx : x < 18446744073709551616) : Calls Try.prog 21 #[.int .i64 (s : Int), .int .u64 (x : Int)] w fun e w' => ∃ (A : Option Addr) (c : Nat), e = .returned (.slice A s c) ∧ Ar .u8 256 w' A (bs s x) s c ∧ Plus w w' := by
  obtain ⟨i0, hi, hz0, hz1, hz2⟩ := info_parts infoU8
  have hs8 : (s : Int) ≤ 8 := by omega
  have HX := Lib.hid hx
  clear hx
  go_enter Try.func21, Try.ntmps21
  go_wp2_with fail
  go_loopw [1, 5, 6] (B4Rel s x w) (fun _ _ s6 _ => ((s : Int) - intOf s6).toNat)
  case atStart => exact ⟨0, by omega, rfl, by simp, World.ownsRow_nil _ _ _ _, Below.refl _ _⟩
  case round =>
    obtain ⟨j, hj, rfl, rfl, hown, hB⟩ := hrel
    obtain ⟨z0, rfl⟩ := Plus.of_below hB
    by_cases hlt : j < s
    · obtain ⟨a, ha⟩ : ∃ a, x / 2 ^ (8 * j) = a := ⟨_, rfl⟩
      rw [ha]
      have HW := Lib.hid hown
      have hbl : (bs j x).length ≤ 8 := by rw [bs_len]; omega
      have hj7 : (j : Int) ≤ 7 := by omega
      have HA := Lib.hid ha
      clear hown ha
      go_wp2_with (at_builtin; refine wpList_append_own _ rfl _ _ 23 rfl w.heap.size 5 i0 (.int .u8 0) 1 1 Try.underlying23 hi hz0 hz1 hz2 rfl (by decide) _ _ _ rfl (own_alloc HW.out _) ⟨w.heap.size + z0.blocks.length, 0, none⟩ 1 1 [.int .u8 ((a : Int) % 256)] rfl rfl (news_at' _ _ _ _ (by simp [size_plus])) (by simp [Value.oneCell']) (by unfold maxLen; omega) (by omega) (by simp [size_plus]; omega) ?_; intro v1 w1 hown1 hgr1 _; have HW2 := Lib.hid hown1; have HG2 := Lib.hid hgr1; clear hown1 hgr1)
      go_roundw
      case rel =>
        refine ⟨j + 1, by omega, by rw [show ((j + 1 : Nat) : Int) = (j : Int) + 1 by omega], ?_, ?_, below_own HW.out HG2.out hB (by simp [size_plus])⟩
        · rw [Nat.mul_add 8, Nat.pow_add, ← Nat.div_div_eq_div_mul, HA.out]
          congr 1
        · rw [bs_succ, List.length_append, vals_app, HA.out]
          exact HW2.out
      case measure => simp [intOf]; omega
    · obtain rfl : j = s := by omega
      have HW := Lib.hid hown
      clear hown
      go_wp2_with fail
      go_returns
      obtain ⟨A, c, e, q1, q2, q3⟩ := rd_of_own HW.out
      rw [bs_len] at e q1
      exact ⟨A, c, by rw [e]; rfl, ⟨q3, (bs_len _ _).symm, q1, q2, bs_B _ _⟩, Plus.of_below hB⟩
theorem refBytes4_n {s x : Nat} {xs : List Nat} (hr : Hid (bs s x = xs ∧ s ≤ 8 ∧ x < 18446744073709551616)) (w : World) : Calls Try.prog 21 #[.int .i64 (s : Int), .int .u64 (x : Int)] w fun e w' => ∃ (A : Option Addr) (c : Nat), e = .returned (.slice A s c) ∧ Ar .u8 256 w' A xs s c ∧ Plus w w' := by
  obtain ⟨rfl, h1, h2⟩ := hr.out
  exact refBytes4_c s x w h1 h2
end Go.Proofs.Ytjojkogmbgppcaa
