/- The kinds, ranged over: the walk. -/
import Derived.WalkKit
import Derived.WalkSpells
import Derived.WalkLawsBesides
import Derived.Handy
import Derived.Deep.RegionHeld3
import Derived.Deep.DeepCutAuto
import Derived.Deep.QuietTactic
import Derived.BigQuiet
import Derived.Lib.Hide
import Derived.KernelRfl
import Derived.WalkMore
import Derived.Deep.LoopGhost
import Derived.Test.YtjojkogmbgppcaaC11
import Derived.Test.YtjojkogmbgppcaaR1
import Derived.Test.YtjojkogmbgppcaaM1
namespace Go.Proofs.Ytjojkogmbgppcaa
open Go.RowKit


def EqK (xs ys : List Nat) (b : Bool) : Prop := decide (xs = ys) = b
theorem refInts_e {A C : Option Addr} {xs ys : List Nat} {n c m d : Nat} {b : Bool} (h : Hid (EqK xs ys b)) (w : World) (ha : Ar .i64 9223372036854775808 w A xs n c) (hb : Ar .i64 9223372036854775808 w C ys m d) :
    Calls Try.prog 36 #[.slice A n c, .slice C m d] w fun e w' => e = .returned (.bool b) ∧ Plus w w' := refInts_n (Lib.hid h.out) w ha hb
/-- Is the kind among the first i? -/
def inB (i : Nat) (kk : Int) : Bool := decide (1 ≤ kk ∧ kk ≤ (i : Int))
theorem inB_0 (kk : Int) : inB 0 kk = false := by unfold inB; simp; omega
theorem inB_yes {i : Nat} {kk : Int} (h : inB i kk = true) : inB (i + 1) kk = true := by
  unfold inB at h ⊢
  simp at h ⊢
  omega
theorem inB_no {i : Nat} {kk : Int} (h : inB i kk = false) : inB (i + 1) kk = ((i : Int) + 1 == kk) := by
  unfold inB at h ⊢
  rw [Bool.eq_iff_iff]
  simp at h ⊢
  omega
def KRel (kk : Int) (W : World) (s6 s7 : Value) (wr : World) : Prop := ∃ (i : Nat) (b : Bool), i ≤ 8 ∧ s7 = .int .i64 (i : Int) ∧ s6 = .bool b ∧ inB i kk = b ∧ Plus W wr
theorem ks_get {i : Nat} (h : i < 8) : (ks 8).getD i 0 = i + 1 := by
  unfold ks
  rw [List.getD_eq_getElem?_getD, List.getElem?_range' h]
  simp
  omega
theorem ks_take {m : Nat} (h : m ≤ 8) : (ks 8).take m = ks m := by
  have q : m = 0 ∨ m = 1 ∨ m = 2 ∨ m = 3 ∨ m = 4 ∨ m = 5 ∨ m = 6 ∨ m = 7 ∨ m = 8 := by omega
  rcases q with rfl | rfl | rfl | rfl | rfl | rfl | rfl | rfl | rfl <;> rfl

set_option maxRecDepth 100000 in
set_option maxHeartbeats 8000000 in
theorem kinds_h (n kk p : Int) (m sk : Nat) (g b8 : Bool) (w : World) (hm : Hid (tkN n = m)) (hp1 : (if n < 0 then 0 else n) = p) (hp2 : (if 8 < p then 8 else p) = (m : Int)) (hs : Hid (SzN kk sk)) (hg : Hid (BgN kk g)) (hb8 : Hid (inB 8 kk = b8)) (hbs : decide (0 < sk) = b8) (hgs : g = false ∨ g = true ∧ sk = 8 ∧ b8 = true) :
    Calls Try.prog 11 #[.int .i64 n, .int .i64 kk] w fun e w' => e = .returned (.bool true) ∧ Plus w w' := by
  go_enter Try.func11, Try.ntmps11
  go_wp2_with fail
  refine (first_c _).mono ?_
  rintro e w1 ⟨rfl, ⟨y0, rfl⟩⟩
  go_wp2_with fail
  with_reducible refine (list_c _).mono ?_
  rintro e w1 ⟨A, c, rfl, hc1, hc2, hrd, ⟨y1, rfl⟩⟩
  have hl8 : (ks 8).length = 8 := ks_len 8
  obtain ⟨gg, o, rfl, hgl, hat⟩ := hrd.at_ (j := 0) (by rw [hl8]; decide)
  have : Old gg (plus (plus w y0) y1) := ⟨hgl⟩
  have HAT := Lib.hid hat
  have HRD := Lib.hid hrd
  clear hat hrd
  go_wp2_with fail
  go_loopw [6, 7] (KRel kk (plus (plus w y0) y1)) (fun _ s7 _ => ((8 : Int) - intOf s7).toNat)
  case atStart => exact ⟨0, false, by omega, rfl, rfl, inB_0 kk, Plus.refl _⟩
  case round =>
    obtain ⟨i, b, hi, rfl, rfl, hb, ⟨z, rfl⟩⟩ := hrel
    by_cases hlt : i < 8
    · have hcell := HAT.out i (by rw [hl8]; exact hlt)
      rw [ks_get hlt] at hcell
      have hadd := add_addr gg o i
      have HB := Lib.hid hb
      clear hb
      rcases i with _ | j
      · obtain ⟨s1, hs1⟩ : ∃ s1, SzN 1 s1 := ⟨szK 1, rfl⟩
        have hs0 : ((s1 : Int) == 0) = false := by rw [← show szK 1 = s1 from hs1]; decide
        have g1 := Lib.hid hs1
        clear hs1
        rw [Nat.add_zero, show (((0 + 1 : Nat)) : Int) = 1 from rfl] at hcell
        rw [show ((0 : Nat) : Int) = 0 from rfl]
        cases b
        · go_wp2_with fail
          refine wp_region_plus (by kernel_rfl) (by kernel_rfl) ?_
          repeat (go_big_quiet_step ((first | (go_at_call 16; with_reducible exact calls_plus (size_n g1 _)))))
          rintro w2 ⟨z2, rfl⟩
          go_wp2_with fail
          go_roundw
          case rel => exact ⟨1, _, by decide, rfl, rfl, (inB_no HB.out).trans (by simp), by repeat' (first | exact Plus.refl _ | refine Plus.alloc ?_ _ | refine Plus.plus ?_ _ | refine Plus.drew ?_ | refine Plus.drewN ?_ _)⟩
          case measure => simp [intOf]; try omega
        · go_wp2_with fail
          refine wp_region_plus (by kernel_rfl) (by kernel_rfl) ?_
          repeat (go_big_quiet_step ((first | (go_at_call 16; with_reducible exact calls_plus (size_n g1 _)))))
          rintro w2 ⟨z2, rfl⟩
          go_wp2_with fail
          go_roundw
          case rel => exact ⟨1, true, by decide, rfl, rfl, inB_yes HB.out, by repeat' (first | exact Plus.refl _ | refine Plus.alloc ?_ _ | refine Plus.plus ?_ _ | refine Plus.drew ?_ | refine Plus.drewN ?_ _)⟩
          case measure => simp [intOf]; try omega
      · have hcell0 := HAT.out j (by rw [hl8]; omega)
        rw [ks_get (by omega)] at hcell0
        obtain ⟨s1, hs1⟩ : ∃ s1, SzN ((j : Int) + 1 + 1) s1 := ⟨szK ((j : Int) + 1 + 1), (rfl : szK _ = szK _)⟩
        obtain ⟨s0, hs0⟩ : ∃ s0, SzN ((j : Int) + 1) s0 := ⟨szK ((j : Int) + 1), (rfl : szK _ = szK _)⟩
        have hj : j = 0 ∨ j = 1 ∨ j = 2 ∨ j = 3 ∨ j = 4 ∨ j = 5 ∨ j = 6 := by omega
        have hle : (s1 : Int) ≠ 0 ∧ (s0 : Int) ≤ (s1 : Int) := by
          rw [← show szK ((j : Int) + 1 + 1) = s1 from hs1, ← show szK ((j : Int) + 1) = s0 from hs0]
          rcases hj with rfl | rfl | rfl | rfl | rfl | rfl | rfl <;> decide
        obtain ⟨hle1, hle2⟩ := hle
        have hs10 : ((s1 : Int) == 0) = false := by simpa using hle1
        have g1 := Lib.hid hs1
        have g0 := Lib.hid hs0
        clear hs1 hs0 hj hle1
        have hj7 : (j : Int) ≤ 6 := by omega
        have hgt : (j : Int) < (j : Int) + 1 := by omega
        have hgt2 : decide ((j : Int) + 1 ≤ (j : Int)) = false := by simp; omega
        rw [show (((j + 1 + 1 : Nat)) : Int) = (j : Int) + 1 + 1 by omega] at hcell
        rw [show (((j + 1 : Nat)) : Int) = (j : Int) + 1 by omega] at hcell0 ⊢
        cases b
        · go_wp2_with fail
          refine wp_region_plus (by kernel_rfl) (by kernel_rfl) ?_
          repeat (go_big_quiet_step ((first | (go_at_call 16; with_reducible exact calls_plus (size_n g1 _)) | (go_at_call 16; with_reducible exact calls_plus (size_n g0 _)))))
          rintro w2 ⟨z2, rfl⟩
          go_wp2_with fail
          go_roundw
          case rel => exact ⟨j + 1 + 1, _, by omega, by rw [show (((j + 1 + 1 : Nat)) : Int) = (j : Int) + 1 + 1 by omega], rfl, (inB_no HB.out).trans (by simp), by repeat' (first | exact Plus.refl _ | refine Plus.alloc ?_ _ | refine Plus.plus ?_ _ | refine Plus.drew ?_ | refine Plus.drewN ?_ _)⟩
          case measure => simp [intOf]; try omega
        · go_wp2_with fail
          refine wp_region_plus (by kernel_rfl) (by kernel_rfl) ?_
          repeat (go_big_quiet_step ((first | (go_at_call 16; with_reducible exact calls_plus (size_n g1 _)) | (go_at_call 16; with_reducible exact calls_plus (size_n g0 _)))))
          rintro w2 ⟨z2, rfl⟩
          go_wp2_with fail
          go_roundw
          case rel => exact ⟨j + 1 + 1, true, by omega, by rw [show (((j + 1 + 1 : Nat)) : Int) = (j : Int) + 1 + 1 by omega], rfl, inB_yes HB.out, by repeat' (first | exact Plus.refl _ | refine Plus.alloc ?_ _ | refine Plus.plus ?_ _ | refine Plus.drew ?_ | refine Plus.drewN ?_ _)⟩
          case measure => simp [intOf]; try omega
    · obtain rfl : i = 8 := by omega
      rw [show ((8 : Nat) : Int) = 8 from rfl]
      have hbb : b = b8 := by rw [← hb, hb8.out]
      subst hbb
      have hm8 : m ≤ 8 := by
        rw [← hm.out]
        unfold tkN
        omega
      have HL : Hid (Ar .i64 9223372036854775808 (plus (plus w y0) y1) (some ⟨gg, o, none⟩) (ks m) m c) := Lib.hid ⟨by rw [← ks_take hm8]; exact HRD.out.take m, (ks_len m).symm, by omega, hc2, fun x hx => by
        unfold ks at hx
        rw [List.mem_range'_1] at hx
        omega⟩
      have he : Hid (EqK (ks m) (ks m) true) := Lib.hid (decide_eq_true rfl)
      have hadd0 := add_addr gg o 0
      clear hb
      have hm8' : (m : Int) ≤ 8 := by omega
      have hm8c : (m : Int) ≤ (c : Int) := by omega
      rcases hgs with rfl | ⟨rfl, rfl, rfl⟩
      · go_upto_region 13 with fail
        refine wp_region_noPanic ?_
        refine wp_region_held_drew (S := (fun _ => True)) (by kernel_rfl) (by trivial) (fun hHeld => ?_)
        refine wpAnyH_ready (rs := [0]) (by kernel_rfl) (by simp) ?_
        refine AllReadyH.cons (o := { dst := some 65, op := Go.Op.call { callee := Go.Callee.value (Go.Operand.func 12), args := #[], argTypes := #[] }, type := 4, pos := "extra.go:101", after := #[], guard := none }) rfl (fun K hK => ?_) AllReadyH.nil
        go_simp
        (with_reducible refine (first_c _).mono ?_); rintro e w1 ⟨rfl, ⟨v0, rfl⟩⟩
        go_wp2_with fail
        refine hK.out _ _ trivial (fun hHeld1 => ?_)
        clear hK K hHeld
        try simp only [Act.put, List.setIfInBounds_toArray, List.set_cons_zero, List.set_cons_succ]
        refine wpAnyH_take (i := 1) (oi := { dst := some 66, op := Go.Op.move (Go.Operand.tmp 65), type := 4, pos := "extra.go:101", after := #[{ on := 0, ground := Go.Ground.data }, { on := 0, ground := Go.Ground.chain }], guard := none }) (v := ?v13c0_1) rfl (by kernel_rfl) (by kernel_rfl) (by kernel_rfl) (fun _ _ _ h => h) (Or.inl ⟨by rfl, ?hy13c0_1⟩) hHeld1 ?_
        case hy13c0_1 => (intro w hSw; clear hSw; go_simp; first | done | with_reducible rfl)
        try simp only [Act.put, List.setIfInBounds_toArray, List.set_cons_zero, List.set_cons_succ]
        refine wpAnyH_take (i := 2) (oi := { dst := some 67, op := Go.Op.move (Go.Operand.tmp 0), type := 3, pos := "extra.go:101", after := #[{ on := 1, ground := Go.Ground.guard }], guard := some (1, true) }) (v := ?v13c0_2) rfl (by kernel_rfl) (by kernel_rfl) (by kernel_rfl) (fun _ _ _ h => h) (Or.inl ⟨by rfl, ?hy13c0_2⟩) hHeld1 ?_
        case hy13c0_2 => (intro w hSw; clear hSw; go_simp; first | done | with_reducible rfl)
        try simp only [Act.put, List.setIfInBounds_toArray, List.set_cons_zero, List.set_cons_succ]
        refine wpAnyH_take (i := 4) (oi := { dst := some 69, op := Go.Op.move (Go.Operand.tmp 5), type := 51, pos := "extra.go:101", after := #[{ on := 1, ground := Go.Ground.guard }], guard := some (1, true) }) (v := ?v13c0_4) rfl (by kernel_rfl) (by kernel_rfl) (by kernel_rfl) (fun _ _ _ h => h) (Or.inl ⟨by rfl, ?hy13c0_4⟩) hHeld1 ?_
        case hy13c0_4 => (intro w hSw; clear hSw; go_simp; first | done | with_reducible rfl)
        try simp only [Act.put, List.setIfInBounds_toArray, List.set_cons_zero, List.set_cons_succ]
        refine wpAnyH_take (i := 5) (oi := { dst := some 70, op := Go.Op.move (Go.Operand.tmp 0), type := 3, pos := "extra.go:101", after := #[{ on := 1, ground := Go.Ground.guard }], guard := some (1, true) }) (v := ?v13c0_5) rfl (by kernel_rfl) (by kernel_rfl) (by kernel_rfl) (fun _ _ _ h => h) (Or.inl ⟨by rfl, ?hy13c0_5⟩) hHeld1 ?_
        case hy13c0_5 => (intro w hSw; clear hSw; go_simp; first | done | with_reducible rfl)
        try simp only [Act.put, List.setIfInBounds_toArray, List.set_cons_zero, List.set_cons_succ]
        refine wpAnyH_take (i := 6) (oi := { dst := some 71, op := Go.Op.call { callee := Go.Callee.builtin Go.Builtin.max, args := #[Go.Operand.tmp 70, Go.Operand.const (Go.Value.int Go.IntKind.i64 0)], argTypes := #[3, 3] }, type := 3, pos := "extra.go:101", after := #[{ on := 5, ground := Go.Ground.data }, { on := 1, ground := Go.Ground.guard }], guard := some (1, true) }) (v := ?v13c0_6) rfl (by kernel_rfl) (by kernel_rfl) (by kernel_rfl) (fun _ _ _ h => h) (Or.inl ⟨by rfl, ?hy13c0_6⟩) hHeld1 ?_
        case hy13c0_6 => (intro w hSw; clear hSw; go_simp; first | done | with_reducible rfl)
        try simp only [Act.put, List.setIfInBounds_toArray, List.set_cons_zero, List.set_cons_succ]
        refine wpAnyH_take (i := 7) (oi := { dst := some 72, op := Go.Op.call { callee := Go.Callee.builtin Go.Builtin.min, args := #[Go.Operand.tmp 71, Go.Operand.const (Go.Value.int Go.IntKind.i64 8)], argTypes := #[3, 3] }, type := 3, pos := "extra.go:101", after := #[{ on := 6, ground := Go.Ground.data }, { on := 1, ground := Go.Ground.guard }], guard := some (1, true) }) (v := ?v13c0_7) rfl (by kernel_rfl) (by kernel_rfl) (by kernel_rfl) (fun _ _ _ h => h) (Or.inl ⟨by rfl, ?hy13c0_7⟩) hHeld1 ?_
        case hy13c0_7 => (intro w hSw; clear hSw; go_simp; first | done | with_reducible rfl)
        try simp only [Act.put, List.setIfInBounds_toArray, List.set_cons_zero, List.set_cons_succ]
        refine wpAnyH_take (i := 8) (oi := { dst := some 73, op := Go.Op.slice 51 (Go.Operand.tmp 69) none (some (Go.Operand.tmp 72)) none, type := 51, pos := "extra.go:101", after := #[{ on := 4, ground := Go.Ground.data }, { on := 7, ground := Go.Ground.data }, { on := 1, ground := Go.Ground.guard }], guard := some (1, true) }) (v := ?v13c0_8) rfl (by kernel_rfl) (by kernel_rfl) (by kernel_rfl) (fun _ _ _ h => h) (Or.inl ⟨by rfl, ?hy13c0_8⟩) hHeld1 ?_
        case hy13c0_8 => (intro w hSw; clear hSw; go_simp; first | done | with_reducible rfl)
        try simp only [Act.put, List.setIfInBounds_toArray, List.set_cons_zero, List.set_cons_succ]
        refine wpAnyH_ready (rs := [3]) (by kernel_rfl) (by simp) ?_
        refine AllReadyH.cons (o := { dst := some 68, op := Go.Op.call { callee := Go.Callee.value (Go.Operand.func 37), args := #[Go.Operand.tmp 67], argTypes := #[3] }, type := 51, pos := "extra.go:101", after := #[{ on := 2, ground := Go.Ground.data }, { on := 1, ground := Go.Ground.chain }, { on := 1, ground := Go.Ground.guard }], guard := some (1, true) }) rfl (fun K hK => ?_) AllReadyH.nil
        go_simp
        (with_reducible refine (taken_c _ m hm _).mono ?_); rintro e w1 ⟨A2, c2, rfl, hT, ⟨v1, rfl⟩⟩; (try simp only [plus_drew] at hT); have HT := Lib.hid hT; clear hT
        go_wp2_with fail
        refine hK.out _ _ trivial (fun hHeld2 => ?_)
        clear hK K hHeld1
        try simp only [Act.put, List.setIfInBounds_toArray, List.set_cons_zero, List.set_cons_succ]
        refine wpAnyH_ready (rs := [9]) (by kernel_rfl) (by simp) ?_
        refine AllReadyH.cons (o := { dst := some 74, op := Go.Op.call { callee := Go.Callee.value (Go.Operand.func 36), args := #[Go.Operand.tmp 68, Go.Operand.tmp 73], argTypes := #[51, 51] }, type := 4, pos := "extra.go:101", after := #[{ on := 3, ground := Go.Ground.data }, { on := 8, ground := Go.Ground.data }, { on := 3, ground := Go.Ground.chain }, { on := 1, ground := Go.Ground.guard }], guard := some (1, true) }) rfl (fun K hK => ?_) AllReadyH.nil
        go_simp
        (with_reducible refine (refInts_e he _ HT.out (HL.out.plus (by repeat' (first | exact Plus.refl _ | refine Plus.alloc ?_ _ | refine Plus.plus ?_ _ | refine Plus.drew ?_ | refine Plus.drewN ?_ _)))).mono ?_); rintro e w1 ⟨rfl, ⟨v2, rfl⟩⟩
        go_wp2_with fail
        refine hK.out _ _ trivial (fun hHeld3 => ?_)
        clear hK K hHeld2
        try simp only [Act.put, List.setIfInBounds_toArray, List.set_cons_zero, List.set_cons_succ]
        refine wpAnyH_take (i := 10) (oi := { dst := some 75, op := Go.Op.pick (Go.Operand.tmp 66) (Go.Operand.tmp 74) (Go.Operand.const (Go.Value.bool false)), type := 4, pos := "extra.go:101", after := #[{ on := 1, ground := Go.Ground.data }, { on := 9, ground := Go.Ground.data }], guard := none }) (v := ?v13c0_10) rfl (by kernel_rfl) (by kernel_rfl) (by kernel_rfl) (fun _ _ _ h => h) (Or.inl ⟨by rfl, ?hy13c0_10⟩) hHeld3 ?_
        case hy13c0_10 => (intro w hSw; clear hSw; go_simp; first | done | with_reducible rfl)
        try simp only [Act.put, List.setIfInBounds_toArray, List.set_cons_zero, List.set_cons_succ]
        refine wpAnyH_take (i := 11) (oi := { dst := some 76, op := Go.Op.move (Go.Operand.tmp 75), type := 4, pos := "extra.go:101", after := #[{ on := 10, ground := Go.Ground.data }, { on := 9, ground := Go.Ground.chain }], guard := none }) (v := ?v13c0_11) rfl (by kernel_rfl) (by kernel_rfl) (by kernel_rfl) (fun _ _ _ h => h) (Or.inl ⟨by rfl, ?hy13c0_11⟩) hHeld3 ?_
        case hy13c0_11 => (intro w hSw; clear hSw; go_simp; first | done | with_reducible rfl)
        try simp only [Act.put, List.setIfInBounds_toArray, List.set_cons_zero, List.set_cons_succ]
        refine wpAnyH_take (i := 12) (oi := { dst := some 77, op := Go.Op.move (Go.Operand.tmp 1), type := 3, pos := "extra.go:101", after := #[{ on := 11, ground := Go.Ground.guard }], guard := some (11, true) }) (v := ?v13c0_12) rfl (by kernel_rfl) (by kernel_rfl) (by kernel_rfl) (fun _ _ _ h => h) (Or.inl ⟨by rfl, ?hy13c0_12⟩) hHeld3 ?_
        case hy13c0_12 => (intro w hSw; clear hSw; go_simp; first | done | with_reducible rfl)
        try simp only [Act.put, List.setIfInBounds_toArray, List.set_cons_zero, List.set_cons_succ]
        refine wpAnyH_take (i := 15) (oi := { dst := some 80, op := Go.Op.move (Go.Operand.tmp 6), type := 4, pos := "extra.go:101", after := #[{ on := 11, ground := Go.Ground.guard }], guard := some (11, true) }) (v := ?v13c0_15) rfl (by kernel_rfl) (by kernel_rfl) (by kernel_rfl) (fun _ _ _ h => h) (Or.inl ⟨by rfl, ?hy13c0_15⟩) hHeld3 ?_
        case hy13c0_15 => (intro w hSw; clear hSw; go_simp; first | done | with_reducible rfl)
        try simp only [Act.put, List.setIfInBounds_toArray, List.set_cons_zero, List.set_cons_succ]
        refine wpAnyH_ready (rs := [13]) (by kernel_rfl) (by simp) ?_
        refine AllReadyH.cons (o := { dst := some 78, op := Go.Op.call { callee := Go.Callee.value (Go.Operand.func 16), args := #[Go.Operand.tmp 77], argTypes := #[3] }, type := 3, pos := "extra.go:101", after := #[{ on := 12, ground := Go.Ground.data }, { on := 11, ground := Go.Ground.chain }, { on := 11, ground := Go.Ground.guard }], guard := some (11, true) }) rfl (fun K hK => ?_) AllReadyH.nil
        go_simp
        (with_reducible refine (size_n hs _).mono ?_); rintro e w1 ⟨rfl, ⟨v3, rfl⟩⟩
        go_wp2_with fail
        refine hK.out _ _ trivial (fun hHeld4 => ?_)
        clear hK K hHeld3
        try simp only [Act.put, List.setIfInBounds_toArray, List.set_cons_zero, List.set_cons_succ]
        refine wpAnyH_take (i := 14) (oi := { dst := some 79, op := Go.Op.binOp Go.BinOp.gtr 3 (Go.Operand.tmp 78) (Go.Operand.const (Go.Value.int Go.IntKind.i64 0)) 3, type := 4, pos := "extra.go:101", after := #[{ on := 13, ground := Go.Ground.data }, { on := 11, ground := Go.Ground.guard }], guard := some (11, true) }) (v := ?v13c0_14) rfl (by kernel_rfl) (by kernel_rfl) (by kernel_rfl) (fun _ _ _ h => h) (Or.inl ⟨by rfl, ?hy13c0_14⟩) hHeld4 ?_
        case hy13c0_14 => (intro w hSw; clear hSw; go_simp; first | done | with_reducible rfl)
        try simp only [Act.put, List.setIfInBounds_toArray, List.set_cons_zero, List.set_cons_succ]
        refine wpAnyH_take (i := 16) (oi := { dst := some 81, op := Go.Op.binOp Go.BinOp.eql 4 (Go.Operand.tmp 79) (Go.Operand.tmp 80) 4, type := 4, pos := "extra.go:101", after := #[{ on := 14, ground := Go.Ground.data }, { on := 15, ground := Go.Ground.data }, { on := 11, ground := Go.Ground.guard }], guard := some (11, true) }) (v := ?v13c0_16) rfl (by kernel_rfl) (by kernel_rfl) (by kernel_rfl) (fun _ _ _ h => h) (Or.inl ⟨by rfl, ?hy13c0_16⟩) hHeld4 ?_
        case hy13c0_16 => (intro w hSw; clear hSw; go_simp; first | done | with_reducible rfl)
        try simp only [Act.put, List.setIfInBounds_toArray, List.set_cons_zero, List.set_cons_succ]
        refine wpAnyH_take (i := 17) (oi := { dst := some 82, op := Go.Op.pick (Go.Operand.tmp 76) (Go.Operand.tmp 81) (Go.Operand.const (Go.Value.bool false)), type := 4, pos := "extra.go:101", after := #[{ on := 11, ground := Go.Ground.data }, { on := 16, ground := Go.Ground.data }], guard := none }) (v := ?v13c0_17) rfl (by kernel_rfl) (by kernel_rfl) (by kernel_rfl) (fun _ _ _ h => h) (Or.inl ⟨by rfl, ?hy13c0_17⟩) hHeld4 ?_
        case hy13c0_17 => (intro w hSw; clear hSw; go_simp; first | done | with_reducible rfl)
        try simp only [Act.put, List.setIfInBounds_toArray, List.set_cons_zero, List.set_cons_succ]
        refine wpAnyH_take (i := 18) (oi := { dst := some 83, op := Go.Op.move (Go.Operand.tmp 82), type := 4, pos := "extra.go:101", after := #[{ on := 17, ground := Go.Ground.data }, { on := 13, ground := Go.Ground.chain }], guard := none }) (v := ?v13c0_18) rfl (by kernel_rfl) (by kernel_rfl) (by kernel_rfl) (fun _ _ _ h => h) (Or.inl ⟨by rfl, ?hy13c0_18⟩) hHeld4 ?_
        case hy13c0_18 => (intro w hSw; clear hSw; go_simp; first | done | with_reducible rfl)
        try simp only [Act.put, List.setIfInBounds_toArray, List.set_cons_zero, List.set_cons_succ]
        refine wpAnyH_take (i := 19) (oi := { dst := some 84, op := Go.Op.move (Go.Operand.tmp 1), type := 3, pos := "extra.go:101", after := #[{ on := 18, ground := Go.Ground.guard }], guard := some (18, true) }) (v := ?v13c0_19) rfl (by kernel_rfl) (by kernel_rfl) (by kernel_rfl) (fun _ _ _ h => h) (Or.inl ⟨by rfl, ?hy13c0_19⟩) hHeld4 ?_
        case hy13c0_19 => (intro w hSw; clear hSw; go_simp; first | done | with_reducible rfl)
        try simp only [Act.put, List.setIfInBounds_toArray, List.set_cons_zero, List.set_cons_succ]
        refine wpAnyH_ready (rs := [20]) (by kernel_rfl) (by simp) ?_
        refine AllReadyH.cons (o := { dst := some 85, op := Go.Op.call { callee := Go.Callee.value (Go.Operand.func 17), args := #[Go.Operand.tmp 84], argTypes := #[3] }, type := 4, pos := "extra.go:101", after := #[{ on := 19, ground := Go.Ground.data }, { on := 18, ground := Go.Ground.chain }, { on := 18, ground := Go.Ground.guard }], guard := some (18, true) }) rfl (fun K hK => ?_) AllReadyH.nil
        go_simp
        (with_reducible refine (isBig_n hg _).mono ?_); rintro e w1 ⟨rfl, ⟨v4, rfl⟩⟩
        go_wp2_with fail
        refine hK.out _ _ trivial (fun hHeld5 => ?_)
        clear hK K hHeld4
        try simp only [Act.put, List.setIfInBounds_toArray, List.set_cons_zero, List.set_cons_succ]
        refine wpAnyH_take (i := 21) (oi := { dst := some 86, op := Go.Op.unOp Go.UnOp.not 4 (Go.Operand.tmp 85), type := 4, pos := "extra.go:101", after := #[{ on := 20, ground := Go.Ground.data }, { on := 18, ground := Go.Ground.guard }], guard := some (18, true) }) (v := ?v13c0_21) rfl (by kernel_rfl) (by kernel_rfl) (by kernel_rfl) (fun _ _ _ h => h) (Or.inl ⟨by rfl, ?hy13c0_21⟩) hHeld5 ?_
        case hy13c0_21 => (intro w hSw; clear hSw; go_simp; first | done | with_reducible rfl)
        try simp only [Act.put, List.setIfInBounds_toArray, List.set_cons_zero, List.set_cons_succ]
        refine wpAnyH_take (i := 22) (oi := { dst := some 87, op := Go.Op.move (Go.Operand.tmp 86), type := 4, pos := "extra.go:101", after := #[{ on := 21, ground := Go.Ground.data }, { on := 20, ground := Go.Ground.chain }, { on := 18, ground := Go.Ground.guard }], guard := some (18, true) }) (v := ?v13c0_22) rfl (by kernel_rfl) (by kernel_rfl) (by kernel_rfl) (fun _ _ _ h => h) (Or.inl ⟨by rfl, ?hy13c0_22⟩) hHeld5 ?_
        case hy13c0_22 => (intro w hSw; clear hSw; go_simp; first | done | with_reducible rfl)
        try simp only [Act.put, List.setIfInBounds_toArray, List.set_cons_zero, List.set_cons_succ]
        refine wpAnyH_take (i := 23) (oi := { dst := some 88, op := Go.Op.move (Go.Operand.tmp 1), type := 3, pos := "extra.go:101", after := #[{ on := 22, ground := Go.Ground.guard }], guard := some (22, false) }) (v := undef) rfl (by kernel_rfl) (by kernel_rfl) (by kernel_rfl) (fun _ _ _ h => h) (Or.inr ⟨by rfl, rfl⟩) hHeld5 ?_
        try simp only [Act.put, List.setIfInBounds_toArray, List.set_cons_zero, List.set_cons_succ]
        refine wpAnyH_take (i := 24) (oi := { dst := some 89, op := Go.Op.call { callee := Go.Callee.value (Go.Operand.func 16), args := #[Go.Operand.tmp 88], argTypes := #[3] }, type := 3, pos := "extra.go:101", after := #[{ on := 23, ground := Go.Ground.data }, { on := 22, ground := Go.Ground.chain }, { on := 22, ground := Go.Ground.guard }], guard := some (22, false) }) (v := undef) rfl (by kernel_rfl) (by kernel_rfl) (by kernel_rfl) (fun _ _ _ h => h) (Or.inr ⟨by rfl, rfl⟩) hHeld5 ?_
        try simp only [Act.put, List.setIfInBounds_toArray, List.set_cons_zero, List.set_cons_succ]
        refine wpAnyH_take (i := 25) (oi := { dst := some 90, op := Go.Op.binOp Go.BinOp.eql 3 (Go.Operand.tmp 89) (Go.Operand.const (Go.Value.int Go.IntKind.i64 8)) 3, type := 4, pos := "extra.go:101", after := #[{ on := 24, ground := Go.Ground.data }, { on := 22, ground := Go.Ground.guard }], guard := some (22, false) }) (v := undef) rfl (by kernel_rfl) (by kernel_rfl) (by kernel_rfl) (fun _ _ _ h => h) (Or.inr ⟨by rfl, rfl⟩) hHeld5 ?_
        try simp only [Act.put, List.setIfInBounds_toArray, List.set_cons_zero, List.set_cons_succ]
        refine wpAnyH_take (i := 26) (oi := { dst := some 91, op := Go.Op.pick (Go.Operand.tmp 87) (Go.Operand.const (Go.Value.bool true)) (Go.Operand.tmp 90), type := 4, pos := "extra.go:101", after := #[{ on := 22, ground := Go.Ground.data }, { on := 25, ground := Go.Ground.data }, { on := 18, ground := Go.Ground.guard }], guard := some (18, true) }) (v := ?v13c0_26) rfl (by kernel_rfl) (by kernel_rfl) (by kernel_rfl) (fun _ _ _ h => h) (Or.inl ⟨by rfl, ?hy13c0_26⟩) hHeld5 ?_
        case hy13c0_26 => (intro w hSw; clear hSw; go_simp; first | done | with_reducible rfl)
        try simp only [Act.put, List.setIfInBounds_toArray, List.set_cons_zero, List.set_cons_succ]
        refine wpAnyH_take (i := 27) (oi := { dst := some 92, op := Go.Op.pick (Go.Operand.tmp 83) (Go.Operand.tmp 91) (Go.Operand.const (Go.Value.bool false)), type := 4, pos := "extra.go:101", after := #[{ on := 18, ground := Go.Ground.data }, { on := 26, ground := Go.Ground.data }], guard := none }) (v := ?v13c0_27) rfl (by kernel_rfl) (by kernel_rfl) (by kernel_rfl) (fun _ _ _ h => h) (Or.inl ⟨by rfl, ?hy13c0_27⟩) hHeld5 ?_
        case hy13c0_27 => (intro w hSw; clear hSw; go_simp; first | done | with_reducible rfl)
        try simp only [Act.put, List.setIfInBounds_toArray, List.set_cons_zero, List.set_cons_succ]
        refine wpAnyH_take (i := 28) (oi := { dst := some 4, op := Go.Op.assign (Go.Operand.tmp 92), type := 4, pos := "extra.go:101", after := #[{ on := 27, ground := Go.Ground.data }, { on := 24, ground := Go.Ground.chain }, { on := 0, ground := Go.Ground.phase }, { on := 1, ground := Go.Ground.phase }, { on := 2, ground := Go.Ground.phase }, { on := 3, ground := Go.Ground.phase }, { on := 4, ground := Go.Ground.phase }, { on := 5, ground := Go.Ground.phase }, { on := 6, ground := Go.Ground.phase }, { on := 7, ground := Go.Ground.phase }, { on := 8, ground := Go.Ground.phase }, { on := 9, ground := Go.Ground.phase }, { on := 10, ground := Go.Ground.phase }, { on := 11, ground := Go.Ground.phase }, { on := 12, ground := Go.Ground.phase }, { on := 13, ground := Go.Ground.phase }, { on := 14, ground := Go.Ground.phase }, { on := 15, ground := Go.Ground.phase }, { on := 16, ground := Go.Ground.phase }, { on := 17, ground := Go.Ground.phase }, { on := 18, ground := Go.Ground.phase }, { on := 19, ground := Go.Ground.phase }, { on := 20, ground := Go.Ground.phase }, { on := 21, ground := Go.Ground.phase }, { on := 22, ground := Go.Ground.phase }, { on := 23, ground := Go.Ground.phase }, { on := 24, ground := Go.Ground.phase }, { on := 25, ground := Go.Ground.phase }, { on := 26, ground := Go.Ground.phase }, { on := 27, ground := Go.Ground.phase }], guard := none }) (v := ?v13c0_28) rfl (by kernel_rfl) (by kernel_rfl) (by kernel_rfl) (fun _ _ _ h => h) (Or.inl ⟨by rfl, ?hy13c0_28⟩) hHeld5 ?_
        case hy13c0_28 => (intro w hSw; clear hSw; go_simp; first | done | with_reducible rfl)
        try simp only [Act.put, List.setIfInBounds_toArray, List.set_cons_zero, List.set_cons_succ]
        refine wpAnyH_done (by kernel_rfl) ?_ _
        refine NoPanic.normal ?_
        go_wp2_with fail
        go_ret
        exact ⟨rfl, (by repeat' (first | exact Plus.refl _ | refine Plus.alloc ?_ _ | refine Plus.plus ?_ _ | refine Plus.drew ?_ | refine Plus.drewN ?_ _))⟩
      · go_upto_region 13 with fail
        refine wp_region_noPanic ?_
        refine wp_region_held_drew (S := (fun _ => True)) (by kernel_rfl) (by trivial) (fun hHeld => ?_)
        refine wpAnyH_ready (rs := [0]) (by kernel_rfl) (by simp) ?_
        refine AllReadyH.cons (o := { dst := some 65, op := Go.Op.call { callee := Go.Callee.value (Go.Operand.func 12), args := #[], argTypes := #[] }, type := 4, pos := "extra.go:101", after := #[], guard := none }) rfl (fun K hK => ?_) AllReadyH.nil
        go_simp
        (with_reducible refine (first_c _).mono ?_); rintro e w1 ⟨rfl, ⟨v0, rfl⟩⟩
        go_wp2_with fail
        refine hK.out _ _ trivial (fun hHeld1 => ?_)
        clear hK K hHeld
        try simp only [Act.put, List.setIfInBounds_toArray, List.set_cons_zero, List.set_cons_succ]
        refine wpAnyH_take (i := 1) (oi := { dst := some 66, op := Go.Op.move (Go.Operand.tmp 65), type := 4, pos := "extra.go:101", after := #[{ on := 0, ground := Go.Ground.data }, { on := 0, ground := Go.Ground.chain }], guard := none }) (v := ?v13c1_1) rfl (by kernel_rfl) (by kernel_rfl) (by kernel_rfl) (fun _ _ _ h => h) (Or.inl ⟨by rfl, ?hy13c1_1⟩) hHeld1 ?_
        case hy13c1_1 => (intro w hSw; clear hSw; go_simp; first | done | with_reducible rfl)
        try simp only [Act.put, List.setIfInBounds_toArray, List.set_cons_zero, List.set_cons_succ]
        refine wpAnyH_take (i := 2) (oi := { dst := some 67, op := Go.Op.move (Go.Operand.tmp 0), type := 3, pos := "extra.go:101", after := #[{ on := 1, ground := Go.Ground.guard }], guard := some (1, true) }) (v := ?v13c1_2) rfl (by kernel_rfl) (by kernel_rfl) (by kernel_rfl) (fun _ _ _ h => h) (Or.inl ⟨by rfl, ?hy13c1_2⟩) hHeld1 ?_
        case hy13c1_2 => (intro w hSw; clear hSw; go_simp; first | done | with_reducible rfl)
        try simp only [Act.put, List.setIfInBounds_toArray, List.set_cons_zero, List.set_cons_succ]
        refine wpAnyH_take (i := 4) (oi := { dst := some 69, op := Go.Op.move (Go.Operand.tmp 5), type := 51, pos := "extra.go:101", after := #[{ on := 1, ground := Go.Ground.guard }], guard := some (1, true) }) (v := ?v13c1_4) rfl (by kernel_rfl) (by kernel_rfl) (by kernel_rfl) (fun _ _ _ h => h) (Or.inl ⟨by rfl, ?hy13c1_4⟩) hHeld1 ?_
        case hy13c1_4 => (intro w hSw; clear hSw; go_simp; first | done | with_reducible rfl)
        try simp only [Act.put, List.setIfInBounds_toArray, List.set_cons_zero, List.set_cons_succ]
        refine wpAnyH_take (i := 5) (oi := { dst := some 70, op := Go.Op.move (Go.Operand.tmp 0), type := 3, pos := "extra.go:101", after := #[{ on := 1, ground := Go.Ground.guard }], guard := some (1, true) }) (v := ?v13c1_5) rfl (by kernel_rfl) (by kernel_rfl) (by kernel_rfl) (fun _ _ _ h => h) (Or.inl ⟨by rfl, ?hy13c1_5⟩) hHeld1 ?_
        case hy13c1_5 => (intro w hSw; clear hSw; go_simp; first | done | with_reducible rfl)
        try simp only [Act.put, List.setIfInBounds_toArray, List.set_cons_zero, List.set_cons_succ]
        refine wpAnyH_take (i := 6) (oi := { dst := some 71, op := Go.Op.call { callee := Go.Callee.builtin Go.Builtin.max, args := #[Go.Operand.tmp 70, Go.Operand.const (Go.Value.int Go.IntKind.i64 0)], argTypes := #[3, 3] }, type := 3, pos := "extra.go:101", after := #[{ on := 5, ground := Go.Ground.data }, { on := 1, ground := Go.Ground.guard }], guard := some (1, true) }) (v := ?v13c1_6) rfl (by kernel_rfl) (by kernel_rfl) (by kernel_rfl) (fun _ _ _ h => h) (Or.inl ⟨by rfl, ?hy13c1_6⟩) hHeld1 ?_
        case hy13c1_6 => (intro w hSw; clear hSw; go_simp; first | done | with_reducible rfl)
        try simp only [Act.put, List.setIfInBounds_toArray, List.set_cons_zero, List.set_cons_succ]
        refine wpAnyH_take (i := 7) (oi := { dst := some 72, op := Go.Op.call { callee := Go.Callee.builtin Go.Builtin.min, args := #[Go.Operand.tmp 71, Go.Operand.const (Go.Value.int Go.IntKind.i64 8)], argTypes := #[3, 3] }, type := 3, pos := "extra.go:101", after := #[{ on := 6, ground := Go.Ground.data }, { on := 1, ground := Go.Ground.guard }], guard := some (1, true) }) (v := ?v13c1_7) rfl (by kernel_rfl) (by kernel_rfl) (by kernel_rfl) (fun _ _ _ h => h) (Or.inl ⟨by rfl, ?hy13c1_7⟩) hHeld1 ?_
        case hy13c1_7 => (intro w hSw; clear hSw; go_simp; first | done | with_reducible rfl)
        try simp only [Act.put, List.setIfInBounds_toArray, List.set_cons_zero, List.set_cons_succ]
        refine wpAnyH_take (i := 8) (oi := { dst := some 73, op := Go.Op.slice 51 (Go.Operand.tmp 69) none (some (Go.Operand.tmp 72)) none, type := 51, pos := "extra.go:101", after := #[{ on := 4, ground := Go.Ground.data }, { on := 7, ground := Go.Ground.data }, { on := 1, ground := Go.Ground.guard }], guard := some (1, true) }) (v := ?v13c1_8) rfl (by kernel_rfl) (by kernel_rfl) (by kernel_rfl) (fun _ _ _ h => h) (Or.inl ⟨by rfl, ?hy13c1_8⟩) hHeld1 ?_
        case hy13c1_8 => (intro w hSw; clear hSw; go_simp; first | done | with_reducible rfl)
        try simp only [Act.put, List.setIfInBounds_toArray, List.set_cons_zero, List.set_cons_succ]
        refine wpAnyH_ready (rs := [3]) (by kernel_rfl) (by simp) ?_
        refine AllReadyH.cons (o := { dst := some 68, op := Go.Op.call { callee := Go.Callee.value (Go.Operand.func 37), args := #[Go.Operand.tmp 67], argTypes := #[3] }, type := 51, pos := "extra.go:101", after := #[{ on := 2, ground := Go.Ground.data }, { on := 1, ground := Go.Ground.chain }, { on := 1, ground := Go.Ground.guard }], guard := some (1, true) }) rfl (fun K hK => ?_) AllReadyH.nil
        go_simp
        (with_reducible refine (taken_c _ m hm _).mono ?_); rintro e w1 ⟨A2, c2, rfl, hT, ⟨v1, rfl⟩⟩; (try simp only [plus_drew] at hT); have HT := Lib.hid hT; clear hT
        go_wp2_with fail
        refine hK.out _ _ trivial (fun hHeld2 => ?_)
        clear hK K hHeld1
        try simp only [Act.put, List.setIfInBounds_toArray, List.set_cons_zero, List.set_cons_succ]
        refine wpAnyH_ready (rs := [9]) (by kernel_rfl) (by simp) ?_
        refine AllReadyH.cons (o := { dst := some 74, op := Go.Op.call { callee := Go.Callee.value (Go.Operand.func 36), args := #[Go.Operand.tmp 68, Go.Operand.tmp 73], argTypes := #[51, 51] }, type := 4, pos := "extra.go:101", after := #[{ on := 3, ground := Go.Ground.data }, { on := 8, ground := Go.Ground.data }, { on := 3, ground := Go.Ground.chain }, { on := 1, ground := Go.Ground.guard }], guard := some (1, true) }) rfl (fun K hK => ?_) AllReadyH.nil
        go_simp
        (with_reducible refine (refInts_e he _ HT.out (HL.out.plus (by repeat' (first | exact Plus.refl _ | refine Plus.alloc ?_ _ | refine Plus.plus ?_ _ | refine Plus.drew ?_ | refine Plus.drewN ?_ _)))).mono ?_); rintro e w1 ⟨rfl, ⟨v2, rfl⟩⟩
        go_wp2_with fail
        refine hK.out _ _ trivial (fun hHeld3 => ?_)
        clear hK K hHeld2
        try simp only [Act.put, List.setIfInBounds_toArray, List.set_cons_zero, List.set_cons_succ]
        refine wpAnyH_take (i := 10) (oi := { dst := some 75, op := Go.Op.pick (Go.Operand.tmp 66) (Go.Operand.tmp 74) (Go.Operand.const (Go.Value.bool false)), type := 4, pos := "extra.go:101", after := #[{ on := 1, ground := Go.Ground.data }, { on := 9, ground := Go.Ground.data }], guard := none }) (v := ?v13c1_10) rfl (by kernel_rfl) (by kernel_rfl) (by kernel_rfl) (fun _ _ _ h => h) (Or.inl ⟨by rfl, ?hy13c1_10⟩) hHeld3 ?_
        case hy13c1_10 => (intro w hSw; clear hSw; go_simp; first | done | with_reducible rfl)
        try simp only [Act.put, List.setIfInBounds_toArray, List.set_cons_zero, List.set_cons_succ]
        refine wpAnyH_take (i := 11) (oi := { dst := some 76, op := Go.Op.move (Go.Operand.tmp 75), type := 4, pos := "extra.go:101", after := #[{ on := 10, ground := Go.Ground.data }, { on := 9, ground := Go.Ground.chain }], guard := none }) (v := ?v13c1_11) rfl (by kernel_rfl) (by kernel_rfl) (by kernel_rfl) (fun _ _ _ h => h) (Or.inl ⟨by rfl, ?hy13c1_11⟩) hHeld3 ?_
        case hy13c1_11 => (intro w hSw; clear hSw; go_simp; first | done | with_reducible rfl)
        try simp only [Act.put, List.setIfInBounds_toArray, List.set_cons_zero, List.set_cons_succ]
        refine wpAnyH_take (i := 12) (oi := { dst := some 77, op := Go.Op.move (Go.Operand.tmp 1), type := 3, pos := "extra.go:101", after := #[{ on := 11, ground := Go.Ground.guard }], guard := some (11, true) }) (v := ?v13c1_12) rfl (by kernel_rfl) (by kernel_rfl) (by kernel_rfl) (fun _ _ _ h => h) (Or.inl ⟨by rfl, ?hy13c1_12⟩) hHeld3 ?_
        case hy13c1_12 => (intro w hSw; clear hSw; go_simp; first | done | with_reducible rfl)
        try simp only [Act.put, List.setIfInBounds_toArray, List.set_cons_zero, List.set_cons_succ]
        refine wpAnyH_take (i := 15) (oi := { dst := some 80, op := Go.Op.move (Go.Operand.tmp 6), type := 4, pos := "extra.go:101", after := #[{ on := 11, ground := Go.Ground.guard }], guard := some (11, true) }) (v := ?v13c1_15) rfl (by kernel_rfl) (by kernel_rfl) (by kernel_rfl) (fun _ _ _ h => h) (Or.inl ⟨by rfl, ?hy13c1_15⟩) hHeld3 ?_
        case hy13c1_15 => (intro w hSw; clear hSw; go_simp; first | done | with_reducible rfl)
        try simp only [Act.put, List.setIfInBounds_toArray, List.set_cons_zero, List.set_cons_succ]
        refine wpAnyH_ready (rs := [13]) (by kernel_rfl) (by simp) ?_
        refine AllReadyH.cons (o := { dst := some 78, op := Go.Op.call { callee := Go.Callee.value (Go.Operand.func 16), args := #[Go.Operand.tmp 77], argTypes := #[3] }, type := 3, pos := "extra.go:101", after := #[{ on := 12, ground := Go.Ground.data }, { on := 11, ground := Go.Ground.chain }, { on := 11, ground := Go.Ground.guard }], guard := some (11, true) }) rfl (fun K hK => ?_) AllReadyH.nil
        go_simp
        (with_reducible refine (size_n hs _).mono ?_); rintro e w1 ⟨rfl, ⟨v3, rfl⟩⟩
        go_wp2_with fail
        refine hK.out _ _ trivial (fun hHeld4 => ?_)
        clear hK K hHeld3
        try simp only [Act.put, List.setIfInBounds_toArray, List.set_cons_zero, List.set_cons_succ]
        refine wpAnyH_take (i := 14) (oi := { dst := some 79, op := Go.Op.binOp Go.BinOp.gtr 3 (Go.Operand.tmp 78) (Go.Operand.const (Go.Value.int Go.IntKind.i64 0)) 3, type := 4, pos := "extra.go:101", after := #[{ on := 13, ground := Go.Ground.data }, { on := 11, ground := Go.Ground.guard }], guard := some (11, true) }) (v := ?v13c1_14) rfl (by kernel_rfl) (by kernel_rfl) (by kernel_rfl) (fun _ _ _ h => h) (Or.inl ⟨by rfl, ?hy13c1_14⟩) hHeld4 ?_
        case hy13c1_14 => (intro w hSw; clear hSw; go_simp; first | done | with_reducible rfl)
        try simp only [Act.put, List.setIfInBounds_toArray, List.set_cons_zero, List.set_cons_succ]
        refine wpAnyH_take (i := 16) (oi := { dst := some 81, op := Go.Op.binOp Go.BinOp.eql 4 (Go.Operand.tmp 79) (Go.Operand.tmp 80) 4, type := 4, pos := "extra.go:101", after := #[{ on := 14, ground := Go.Ground.data }, { on := 15, ground := Go.Ground.data }, { on := 11, ground := Go.Ground.guard }], guard := some (11, true) }) (v := ?v13c1_16) rfl (by kernel_rfl) (by kernel_rfl) (by kernel_rfl) (fun _ _ _ h => h) (Or.inl ⟨by rfl, ?hy13c1_16⟩) hHeld4 ?_
        case hy13c1_16 => (intro w hSw; clear hSw; go_simp; first | done | with_reducible rfl)
        try simp only [Act.put, List.setIfInBounds_toArray, List.set_cons_zero, List.set_cons_succ]
        refine wpAnyH_take (i := 17) (oi := { dst := some 82, op := Go.Op.pick (Go.Operand.tmp 76) (Go.Operand.tmp 81) (Go.Operand.const (Go.Value.bool false)), type := 4, pos := "extra.go:101", after := #[{ on := 11, ground := Go.Ground.data }, { on := 16, ground := Go.Ground.data }], guard := none }) (v := ?v13c1_17) rfl (by kernel_rfl) (by kernel_rfl) (by kernel_rfl) (fun _ _ _ h => h) (Or.inl ⟨by rfl, ?hy13c1_17⟩) hHeld4 ?_
        case hy13c1_17 => (intro w hSw; clear hSw; go_simp; first | done | with_reducible rfl)
        try simp only [Act.put, List.setIfInBounds_toArray, List.set_cons_zero, List.set_cons_succ]
        refine wpAnyH_take (i := 18) (oi := { dst := some 83, op := Go.Op.move (Go.Operand.tmp 82), type := 4, pos := "extra.go:101", after := #[{ on := 17, ground := Go.Ground.data }, { on := 13, ground := Go.Ground.chain }], guard := none }) (v := ?v13c1_18) rfl (by kernel_rfl) (by kernel_rfl) (by kernel_rfl) (fun _ _ _ h => h) (Or.inl ⟨by rfl, ?hy13c1_18⟩) hHeld4 ?_
        case hy13c1_18 => (intro w hSw; clear hSw; go_simp; first | done | with_reducible rfl)
        try simp only [Act.put, List.setIfInBounds_toArray, List.set_cons_zero, List.set_cons_succ]
        refine wpAnyH_take (i := 19) (oi := { dst := some 84, op := Go.Op.move (Go.Operand.tmp 1), type := 3, pos := "extra.go:101", after := #[{ on := 18, ground := Go.Ground.guard }], guard := some (18, true) }) (v := ?v13c1_19) rfl (by kernel_rfl) (by kernel_rfl) (by kernel_rfl) (fun _ _ _ h => h) (Or.inl ⟨by rfl, ?hy13c1_19⟩) hHeld4 ?_
        case hy13c1_19 => (intro w hSw; clear hSw; go_simp; first | done | with_reducible rfl)
        try simp only [Act.put, List.setIfInBounds_toArray, List.set_cons_zero, List.set_cons_succ]
        refine wpAnyH_ready (rs := [20]) (by kernel_rfl) (by simp) ?_
        refine AllReadyH.cons (o := { dst := some 85, op := Go.Op.call { callee := Go.Callee.value (Go.Operand.func 17), args := #[Go.Operand.tmp 84], argTypes := #[3] }, type := 4, pos := "extra.go:101", after := #[{ on := 19, ground := Go.Ground.data }, { on := 18, ground := Go.Ground.chain }, { on := 18, ground := Go.Ground.guard }], guard := some (18, true) }) rfl (fun K hK => ?_) AllReadyH.nil
        go_simp
        (with_reducible refine (isBig_n hg _).mono ?_); rintro e w1 ⟨rfl, ⟨v4, rfl⟩⟩
        go_wp2_with fail
        refine hK.out _ _ trivial (fun hHeld5 => ?_)
        clear hK K hHeld4
        try simp only [Act.put, List.setIfInBounds_toArray, List.set_cons_zero, List.set_cons_succ]
        refine wpAnyH_take (i := 21) (oi := { dst := some 86, op := Go.Op.unOp Go.UnOp.not 4 (Go.Operand.tmp 85), type := 4, pos := "extra.go:101", after := #[{ on := 20, ground := Go.Ground.data }, { on := 18, ground := Go.Ground.guard }], guard := some (18, true) }) (v := ?v13c1_21) rfl (by kernel_rfl) (by kernel_rfl) (by kernel_rfl) (fun _ _ _ h => h) (Or.inl ⟨by rfl, ?hy13c1_21⟩) hHeld5 ?_
        case hy13c1_21 => (intro w hSw; clear hSw; go_simp; first | done | with_reducible rfl)
        try simp only [Act.put, List.setIfInBounds_toArray, List.set_cons_zero, List.set_cons_succ]
        refine wpAnyH_take (i := 22) (oi := { dst := some 87, op := Go.Op.move (Go.Operand.tmp 86), type := 4, pos := "extra.go:101", after := #[{ on := 21, ground := Go.Ground.data }, { on := 20, ground := Go.Ground.chain }, { on := 18, ground := Go.Ground.guard }], guard := some (18, true) }) (v := ?v13c1_22) rfl (by kernel_rfl) (by kernel_rfl) (by kernel_rfl) (fun _ _ _ h => h) (Or.inl ⟨by rfl, ?hy13c1_22⟩) hHeld5 ?_
        case hy13c1_22 => (intro w hSw; clear hSw; go_simp; first | done | with_reducible rfl)
        try simp only [Act.put, List.setIfInBounds_toArray, List.set_cons_zero, List.set_cons_succ]
        refine wpAnyH_take (i := 23) (oi := { dst := some 88, op := Go.Op.move (Go.Operand.tmp 1), type := 3, pos := "extra.go:101", after := #[{ on := 22, ground := Go.Ground.guard }], guard := some (22, false) }) (v := ?v13c1_23) rfl (by kernel_rfl) (by kernel_rfl) (by kernel_rfl) (fun _ _ _ h => h) (Or.inl ⟨by rfl, ?hy13c1_23⟩) hHeld5 ?_
        case hy13c1_23 => (intro w hSw; clear hSw; go_simp; first | done | with_reducible rfl)
        try simp only [Act.put, List.setIfInBounds_toArray, List.set_cons_zero, List.set_cons_succ]
        refine wpAnyH_ready (rs := [24]) (by kernel_rfl) (by simp) ?_
        refine AllReadyH.cons (o := { dst := some 89, op := Go.Op.call { callee := Go.Callee.value (Go.Operand.func 16), args := #[Go.Operand.tmp 88], argTypes := #[3] }, type := 3, pos := "extra.go:101", after := #[{ on := 23, ground := Go.Ground.data }, { on := 22, ground := Go.Ground.chain }, { on := 22, ground := Go.Ground.guard }], guard := some (22, false) }) rfl (fun K hK => ?_) AllReadyH.nil
        go_simp
        (with_reducible refine (size_n hs _).mono ?_); rintro e w1 ⟨rfl, ⟨v5, rfl⟩⟩
        go_wp2_with fail
        refine hK.out _ _ trivial (fun hHeld6 => ?_)
        clear hK K hHeld5
        try simp only [Act.put, List.setIfInBounds_toArray, List.set_cons_zero, List.set_cons_succ]
        refine wpAnyH_take (i := 25) (oi := { dst := some 90, op := Go.Op.binOp Go.BinOp.eql 3 (Go.Operand.tmp 89) (Go.Operand.const (Go.Value.int Go.IntKind.i64 8)) 3, type := 4, pos := "extra.go:101", after := #[{ on := 24, ground := Go.Ground.data }, { on := 22, ground := Go.Ground.guard }], guard := some (22, false) }) (v := ?v13c1_25) rfl (by kernel_rfl) (by kernel_rfl) (by kernel_rfl) (fun _ _ _ h => h) (Or.inl ⟨by rfl, ?hy13c1_25⟩) hHeld6 ?_
        case hy13c1_25 => (intro w hSw; clear hSw; go_simp; first | done | with_reducible rfl)
        try simp only [Act.put, List.setIfInBounds_toArray, List.set_cons_zero, List.set_cons_succ]
        refine wpAnyH_take (i := 26) (oi := { dst := some 91, op := Go.Op.pick (Go.Operand.tmp 87) (Go.Operand.const (Go.Value.bool true)) (Go.Operand.tmp 90), type := 4, pos := "extra.go:101", after := #[{ on := 22, ground := Go.Ground.data }, { on := 25, ground := Go.Ground.data }, { on := 18, ground := Go.Ground.guard }], guard := some (18, true) }) (v := ?v13c1_26) rfl (by kernel_rfl) (by kernel_rfl) (by kernel_rfl) (fun _ _ _ h => h) (Or.inl ⟨by rfl, ?hy13c1_26⟩) hHeld6 ?_
        case hy13c1_26 => (intro w hSw; clear hSw; go_simp; first | done | with_reducible rfl)
        try simp only [Act.put, List.setIfInBounds_toArray, List.set_cons_zero, List.set_cons_succ]
        refine wpAnyH_take (i := 27) (oi := { dst := some 92, op := Go.Op.pick (Go.Operand.tmp 83) (Go.Operand.tmp 91) (Go.Operand.const (Go.Value.bool false)), type := 4, pos := "extra.go:101", after := #[{ on := 18, ground := Go.Ground.data }, { on := 26, ground := Go.Ground.data }], guard := none }) (v := ?v13c1_27) rfl (by kernel_rfl) (by kernel_rfl) (by kernel_rfl) (fun _ _ _ h => h) (Or.inl ⟨by rfl, ?hy13c1_27⟩) hHeld6 ?_
        case hy13c1_27 => (intro w hSw; clear hSw; go_simp; first | done | with_reducible rfl)
        try simp only [Act.put, List.setIfInBounds_toArray, List.set_cons_zero, List.set_cons_succ]
        refine wpAnyH_take (i := 28) (oi := { dst := some 4, op := Go.Op.assign (Go.Operand.tmp 92), type := 4, pos := "extra.go:101", after := #[{ on := 27, ground := Go.Ground.data }, { on := 24, ground := Go.Ground.chain }, { on := 0, ground := Go.Ground.phase }, { on := 1, ground := Go.Ground.phase }, { on := 2, ground := Go.Ground.phase }, { on := 3, ground := Go.Ground.phase }, { on := 4, ground := Go.Ground.phase }, { on := 5, ground := Go.Ground.phase }, { on := 6, ground := Go.Ground.phase }, { on := 7, ground := Go.Ground.phase }, { on := 8, ground := Go.Ground.phase }, { on := 9, ground := Go.Ground.phase }, { on := 10, ground := Go.Ground.phase }, { on := 11, ground := Go.Ground.phase }, { on := 12, ground := Go.Ground.phase }, { on := 13, ground := Go.Ground.phase }, { on := 14, ground := Go.Ground.phase }, { on := 15, ground := Go.Ground.phase }, { on := 16, ground := Go.Ground.phase }, { on := 17, ground := Go.Ground.phase }, { on := 18, ground := Go.Ground.phase }, { on := 19, ground := Go.Ground.phase }, { on := 20, ground := Go.Ground.phase }, { on := 21, ground := Go.Ground.phase }, { on := 22, ground := Go.Ground.phase }, { on := 23, ground := Go.Ground.phase }, { on := 24, ground := Go.Ground.phase }, { on := 25, ground := Go.Ground.phase }, { on := 26, ground := Go.Ground.phase }, { on := 27, ground := Go.Ground.phase }], guard := none }) (v := ?v13c1_28) rfl (by kernel_rfl) (by kernel_rfl) (by kernel_rfl) (fun _ _ _ h => h) (Or.inl ⟨by rfl, ?hy13c1_28⟩) hHeld6 ?_
        case hy13c1_28 => (intro w hSw; clear hSw; go_simp; first | done | with_reducible rfl)
        try simp only [Act.put, List.setIfInBounds_toArray, List.set_cons_zero, List.set_cons_succ]
        refine wpAnyH_done (by kernel_rfl) ?_ _
        refine NoPanic.normal ?_
        go_wp2_with fail
        go_ret
        exact ⟨rfl, (by repeat' (first | exact Plus.refl _ | refine Plus.alloc ?_ _ | refine Plus.plus ?_ _ | refine Plus.drew ?_ | refine Plus.drewN ?_ _))⟩

theorem kinds_w (n kk : Int) (w : World) : Calls Try.prog 11 #[.int .i64 n, .int .i64 kk] w fun e w' => e = .returned (.bool true) ∧ Plus w w' := by
  have hsp : szK kk = 0 ∧ ¬ (1 ≤ kk ∧ kk ≤ 8) ∨ 0 < szK kk ∧ (1 ≤ kk ∧ kk ≤ 8) := by
    by_cases h : 1 ≤ kk ∧ kk ≤ 8
    · right
      refine ⟨?_, h⟩
      unfold szK
      rw [if_pos h]
      exact Nat.two_pow_pos _
    · left
      exact ⟨if_neg h, h⟩
  refine kinds_h n kk (if n < 0 then 0 else n) (tkN n) (szK kk) (bigK kk) (inB 8 kk) w (Lib.hid rfl) rfl ?_ (Lib.hid rfl) (Lib.hid rfl) (Lib.hid rfl) ?_ ?_
  · unfold tkN
    split <;> split <;> omega
  · unfold inB
    rw [Bool.eq_iff_iff]
    simp
    omega
  · by_cases h : bigK kk = true
    · right
      have h78 : kk = 7 ∨ kk = 8 := by simpa [bigK] using h
      refine ⟨h, ?_⟩
      rcases h78 with rfl | rfl <;> exact ⟨by decide, by decide⟩
    · left
      simpa using h
end Go.Proofs.Ytjojkogmbgppcaa
