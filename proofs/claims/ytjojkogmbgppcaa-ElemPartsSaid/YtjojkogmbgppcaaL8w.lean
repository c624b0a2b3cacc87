/- Parts of a wide word: the walk. -/
import Derived.WalkKit
import Derived.WalkSpells
import Derived.WalkLawsBesides
import Derived.Handy
import Derived.Deep.RegionHeld3
import Derived.Deep.DeepCutAuto
import Derived.Deep.QuietTactic
import Derived.BigQuiet
import Derived.Lib.Hide
import Derived.KernelRfl
import Derived.WalkMore
import Derived.Deep.LoopGhost
import Derived.Test.YtjojkogmbgppcaaC9
import Derived.Test.YtjojkogmbgppcaaR2
import Derived.Test.YtjojkogmbgppcaaL3w
namespace Go.Proofs.Ytjojkogmbgppcaa
open Go.RowKit


theorem bs_app (n m x : Nat) : bs (n + m) x = bs n x ++ bs m (x / 2 ^ (8 * n)) := by
  induction m with
  | zero => simp [bs]
  | succ m ih =>
    rw [← Nat.add_assoc, bs_succ, ih, bs_succ, List.append_assoc, Nat.div_div_eq_div_mul, ← Nat.pow_add, Nat.mul_add]
theorem below_grown {W W2 w1 : World} {B e z n : Nat} {v : Value} {l : List Value} (h : W2.ownsRow B e z v n l) (hg : W2.grownBy w1 v.ownBlock) (hB : Below B W W2) (hs : B ≤ W2.heap.size) : Below B W w1 := by
  refine hB.grown hg hs (fun j hj => ?_)
  rcases h.2 with ⟨rfl, _⟩ | ⟨g, cap, cur, rfl, hbg, _⟩
  · cases hj
  · injection hj with hj
    subst hj
    exact hbg
def PaRel (c N x : Nat) (W : World) (sv si : Value) (wr : World) : Prop :=
  ∃ i : Nat, i ≤ N ∧ si = .int .i64 (i : Int) ∧ wr.ownsRow W.heap.size 5 1 sv (bs (c * i) x).length (vals .u8 (bs (c * i) x)) ∧ Below W.heap.size W wr
theorem PaRel.step {c N x i a : Nat} {W wr w1 : World} {z : More} {v v1 : Value} (hi : i < N) (ha : x / 2 ^ (8 * (c * i)) = a) (h0 : wr.ownsRow W.heap.size 5 1 v (bs (c * i) x).length (vals .u8 (bs (c * i) x))) (hB : Below W.heap.size W wr)
    (h1 : w1.ownsRow W.heap.size 5 1 v1 ((bs (c * i) x).length + (bs c a).length) (vals .u8 (bs (c * i) x) ++ vals .u8 (bs c a))) (hg : (plus wr z).grownBy w1 v.ownBlock) : PaRel c N x W v1 (.int .i64 ((i : Int) + 1)) w1 := by
  refine ⟨i + 1, hi, by rw [show ((i + 1 : Nat) : Int) = (i : Int) + 1 by omega], ?_, ?_⟩
  · rw [Nat.mul_add c, Nat.mul_one, bs_app, ha, List.length_append, vals_app]
    exact h1
  · exact below_grown (own_plus h0 (Plus.is z)) hg (hB.trans ((Plus.is z).below.mono hB.size)) (Nat.le_trans hB.size (by rw [size_plus]; exact Nat.le_add_right _ _))
theorem PaRel.done {c N x n : Nat} {W wr : World} {sv : Value} (h : wr.ownsRow W.heap.size 5 1 sv (bs (c * N) x).length (vals .u8 (bs (c * N) x))) (hB : Below W.heap.size W wr) (hn : c * N = n) :
    ∃ C d z, sv = .slice C n d ∧ wr = plus W z ∧ Ar .u8 256 (plus W z) C (bs n x) n d := by
  subst hn
  obtain ⟨C, d, rfl, q1, q2, q3⟩ := rd_of_own h
  obtain ⟨z, rfl⟩ := Plus.of_below hB
  exact ⟨C, d, z, by rw [bs_len], rfl, q3, (bs_len _ _).symm, by rw [bs_len] at q1; exact q1, q2, bs_B _ _⟩

set_option maxRecDepth 100000 in
set_option maxHeartbeats 8000000 in
theorem parts_h (x : Nat) (w : World) (HX : Hid (x < 18446744073709551616)) (hb8 : Hid (BsN 8 x (bs 8 x) 8)) (he : Hid (EqN (bs 8 x) (bs 8 x) true)) : Calls Try.prog 8 #[.int .u64 (x : Int)] w fun e w' => e = .returned (.bool true) ∧ Plus w w' := by
  obtain ⟨i0, hi0, hz0, hz1, hz2⟩ := info_parts infoU8
  go_enter Try.func8, Try.ntmps8
  go_wp2_with fail
  with_reducible refine (first_c _).mono ?_
  rintro e w1 ⟨rfl, ⟨y0, rfl⟩⟩
  go_wp2_with fail
  with_reducible refine (bytes_n hb8 _).mono ?_
  rintro e w1 ⟨P, d9, rfl, hP, ⟨y1, rfl⟩⟩
  have HP := Lib.hid hP
  clear hP
  go_wp2_with fail
  go_loopw [4, 7] (PaRel 4 2 x (plus (plus w y0) y1)) (fun _ si _ => ((2 : Int) - intOf si).toNat)
  case atStart => exact ⟨0, by omega, rfl, by rw [Nat.mul_zero]; exact World.ownsRow_nil _ _ _ _, Below.refl _ _⟩
  case round =>
    obtain ⟨i, hi, rfl, hown, hB⟩ := hrel
    by_cases hlt : i < 2
    · obtain ⟨a, ha⟩ : ∃ a, x / 2 ^ (8 * (4 * i)) = a := ⟨_, rfl⟩
      have HW := Lib.hid hown
      have hbl : (bs (4 * i) x).length ≤ 8 := by rw [bs_len]; omega
      have hi8 : (i : Int) < 2 := by omega
      have hal : a < 18446744073709551616 := by
        have := Nat.div_le_self x (2 ^ (8 * (4 * i)))
        have := HX.out
        omega
      have hsh : (x : Int) / 2 ^ (32 * i) = (a : Int) := by
        rw [← ha, Int.natCast_ediv, Int.natCast_pow, ← Nat.mul_assoc]
        rfl
      have HA := Lib.hid ha
      have hb : Hid (BsN 6 a (bs 4 a) 4) := Lib.hid ⟨by rw [show szK 6 = 4 by decide], bs_len _ _, hal⟩
      have HB := Lib.hid hB
      have HL := Lib.hid hal
      clear hown ha hB hal
      go_wp2_with fail
      with_reducible refine (bytes_n hb _).mono ?_
      rintro e w1 ⟨A, d, rfl, hA, ⟨z, rfl⟩⟩
      have HR := Lib.hid hA
      clear hA
      have hl2 : (bs 4 a).length = 4 := bs_len _ _
      go_wp2_with (at_builtin; refine wpList_append_rd (by rfl) _ _ 23 rfl (plus (plus w y0) y1).heap.size 5 i0 (.int .u8 0) 1 .u8 Try.underlying23 hi0 hz0 hz1 hz2 (by decide) _ (bs (4 * i) x) (bs 4 a) rfl (own_plus HW.out (Plus.is z)) _ _ _ rfl HR.out.len HR.out.rd (by unfold maxLen; omega) (by omega) (Nat.le_trans HB.out.size (by rw [size_plus]; exact Nat.le_add_right _ _)) ?_; intro vv w1 hown1 hgr1; have HW2 := Lib.hid hown1; have HG2 := Lib.hid hgr1; clear hown1 hgr1)
      go_roundw
      case rel => exact PaRel.step hlt HA.out HW.out HB.out HW2.out HG2.out
      case measure => simp [intOf]; omega
    · obtain rfl : i = 2 := by omega
      rw [show ((2 : Nat) : Int) = 2 from rfl]
      obtain ⟨C0, d0, v0, rfl, rfl, hC0⟩ := PaRel.done (n := 8) hown hB rfl
      have HC0 := Lib.hid hC0
      clear hown hB hC0
      go_wp2_with fail
      go_loopw [5, 8] (PaRel 2 4 x (plus (plus (plus w y0) y1) v0)) (fun _ si _ => ((4 : Int) - intOf si).toNat)
      case atStart => exact ⟨0, by omega, rfl, by rw [Nat.mul_zero]; exact World.ownsRow_nil _ _ _ _, Below.refl _ _⟩
      case round =>
        obtain ⟨i, hi, rfl, hown, hB⟩ := hrel
        by_cases hlt : i < 4
        · obtain ⟨a, ha⟩ : ∃ a, x / 2 ^ (8 * (2 * i)) = a := ⟨_, rfl⟩
          have HW := Lib.hid hown
          have hbl : (bs (2 * i) x).length ≤ 8 := by rw [bs_len]; omega
          have hi8 : (i : Int) < 4 := by omega
          have hal : a < 18446744073709551616 := by
            have := Nat.div_le_self x (2 ^ (8 * (2 * i)))
            have := HX.out
            omega
          have hsh : (x : Int) / 2 ^ (16 * i) = (a : Int) := by
            rw [← ha, Int.natCast_ediv, Int.natCast_pow, ← Nat.mul_assoc]
            rfl
          have HA := Lib.hid ha
          have hb : Hid (BsN 3 a (bs 2 a) 2) := Lib.hid ⟨by rw [show szK 3 = 2 by decide], bs_len _ _, hal⟩
          have HB := Lib.hid hB
          have HL := Lib.hid hal
          clear hown ha hB hal
          go_wp2_with fail
          with_reducible refine (bytes_n hb _).mono ?_
          rintro e w1 ⟨A, d, rfl, hA, ⟨z, rfl⟩⟩
          have HR := Lib.hid hA
          clear hA
          have hl2 : (bs 2 a).length = 2 := bs_len _ _
          go_wp2_with (at_builtin; refine wpList_append_rd (by rfl) _ _ 23 rfl (plus (plus (plus w y0) y1) v0).heap.size 5 i0 (.int .u8 0) 1 .u8 Try.underlying23 hi0 hz0 hz1 hz2 (by decide) _ (bs (2 * i) x) (bs 2 a) rfl (own_plus HW.out (Plus.is z)) _ _ _ rfl HR.out.len HR.out.rd (by unfold maxLen; omega) (by omega) (Nat.le_trans HB.out.size (by rw [size_plus]; exact Nat.le_add_right _ _)) ?_; intro vv w1 hown1 hgr1; have HW2 := Lib.hid hown1; have HG2 := Lib.hid hgr1; clear hown1 hgr1)
          go_roundw
          case rel => exact PaRel.step hlt HA.out HW.out HB.out HW2.out HG2.out
          case measure => simp [intOf]; omega
        · obtain rfl : i = 4 := by omega
          rw [show ((4 : Nat) : Int) = 4 from rfl]
          obtain ⟨C1, d1, v1, rfl, rfl, hC1⟩ := PaRel.done (n := 8) hown hB rfl
          have HC1 := Lib.hid hC1
          clear hown hB hC1
          go_wp2_with fail
          go_loopw [6, 9] (PaRel 1 8 x (plus (plus (plus (plus w y0) y1) v0) v1)) (fun _ si _ => ((8 : Int) - intOf si).toNat)
          case atStart => exact ⟨0, by omega, rfl, by rw [Nat.mul_zero]; exact World.ownsRow_nil _ _ _ _, Below.refl _ _⟩
          case round =>
            obtain ⟨i, hi, rfl, hown, hB⟩ := hrel
            by_cases hlt : i < 8
            · obtain ⟨a, ha⟩ : ∃ a, x / 2 ^ (8 * (1 * i)) = a := ⟨_, rfl⟩
              have HW := Lib.hid hown
              have hbl : (bs (1 * i) x).length ≤ 8 := by rw [bs_len]; omega
              have hi8 : (i : Int) < 8 := by omega
              have hal : a < 18446744073709551616 := by
                have := Nat.div_le_self x (2 ^ (8 * (1 * i)))
                have := HX.out
                omega
              have hsh : (x : Int) / 2 ^ (8 * i) = (a : Int) := by
                rw [← ha, Int.natCast_ediv, Int.natCast_pow, ← Nat.mul_assoc]
                rfl
              have HA := Lib.hid ha
              have hb : Hid (BsN 1 a (bs 1 a) 1) := Lib.hid ⟨by rw [show szK 1 = 1 by decide], bs_len _ _, hal⟩
              have HB := Lib.hid hB
              have HL := Lib.hid hal
              clear hown ha hB hal
              go_wp2_with fail
              with_reducible refine (bytes_n hb _).mono ?_
              rintro e w1 ⟨A, d, rfl, hA, ⟨z, rfl⟩⟩
              have HR := Lib.hid hA
              clear hA
              have hl2 : (bs 1 a).length = 1 := bs_len _ _
              go_wp2_with (at_builtin; refine wpList_append_rd (by rfl) _ _ 23 rfl (plus (plus (plus (plus w y0) y1) v0) v1).heap.size 5 i0 (.int .u8 0) 1 .u8 Try.underlying23 hi0 hz0 hz1 hz2 (by decide) _ (bs (1 * i) x) (bs 1 a) rfl (own_plus HW.out (Plus.is z)) _ _ _ rfl HR.out.len HR.out.rd (by unfold maxLen; omega) (by omega) (Nat.le_trans HB.out.size (by rw [size_plus]; exact Nat.le_add_right _ _)) ?_; intro vv w1 hown1 hgr1; have HW2 := Lib.hid hown1; have HG2 := Lib.hid hgr1; clear hown1 hgr1)
              go_roundw
              case rel => exact PaRel.step hlt HA.out HW.out HB.out HW2.out HG2.out
              case measure => simp [intOf]; omega
            · obtain rfl : i = 8 := by omega
              rw [show ((8 : Nat) : Int) = 8 from rfl]
              obtain ⟨C2, d2, v2, rfl, rfl, hC2⟩ := PaRel.done (n := 8) hown hB rfl
              have HC2 := Lib.hid hC2
              clear hown hB hC2
              go_wp2_with fail
              with_reducible refine (first_c _).mono ?_
              rintro e w1 ⟨rfl, ⟨y5, rfl⟩⟩
              go_wp2_with fail
              with_reducible refine (refBytes_e he _ (HP.out.plus (by repeat' (first | exact Plus.refl _ | refine Plus.alloc ?_ _ | refine Plus.plus ?_ _ | refine Plus.drew ?_ | refine Plus.drewN ?_ _))) (HC0.out.plus (by repeat' (first | exact Plus.refl _ | refine Plus.alloc ?_ _ | refine Plus.plus ?_ _ | refine Plus.drew ?_ | refine Plus.drewN ?_ _)))).mono ?_
              rintro e w1 ⟨rfl, ⟨y6, rfl⟩⟩
              go_wp2_with fail
              with_reducible refine (refBytes_e he _ (HP.out.plus (by repeat' (first | exact Plus.refl _ | refine Plus.alloc ?_ _ | refine Plus.plus ?_ _ | refine Plus.drew ?_ | refine Plus.drewN ?_ _))) (HC1.out.plus (by repeat' (first | exact Plus.refl _ | refine Plus.alloc ?_ _ | refine Plus.plus ?_ _ | refine Plus.drew ?_ | refine Plus.drewN ?_ _)))).mono ?_
              rintro e w1 ⟨rfl, ⟨y7, rfl⟩⟩
              go_wp2_with fail
              with_reducible refine (refBytes_e he _ (HP.out.plus (by repeat' (first | exact Plus.refl _ | refine Plus.alloc ?_ _ | refine Plus.plus ?_ _ | refine Plus.drew ?_ | refine Plus.drewN ?_ _))) (HC2.out.plus (by repeat' (first | exact Plus.refl _ | refine Plus.alloc ?_ _ | refine Plus.plus ?_ _ | refine Plus.drew ?_ | refine Plus.drewN ?_ _)))).mono ?_
              rintro e w1 ⟨rfl, ⟨y8, rfl⟩⟩
              go_wp2_with fail
              go_ret
              exact ⟨rfl, (by repeat' (first | exact Plus.refl _ | refine Plus.alloc ?_ _ | refine Plus.plus ?_ _ | refine Plus.drew ?_ | refine Plus.drewN ?_ _))⟩

theorem parts_w (x : Nat) (w : World) (hx : x < 18446744073709551616) : Calls Try.prog 8 #[.int .u64 (x : Int)] w fun e w' => e = .returned (.bool true) ∧ Plus w w' :=
  parts_h x w (Lib.hid hx) (Lib.hid ⟨by rw [show szK 8 = 8 by decide], bs_len _ _, hx⟩) (Lib.hid (decide_eq_true rfl))
end Go.Proofs.Ytjojkogmbgppcaa
