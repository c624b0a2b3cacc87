/- The document's BigInts: AsUint. -/
import Derived.Deep.RegionHeld3
import Derived.Test.YthaokkmbghgopaaD4
namespace Go.Proofs.Ythaokkmbghgopaa
open Go.RowKit


theorem alloc_plus (w : World) (x : More) (o : Obj) : (plus w x).alloc o = plus w (x.add ⟨[o], x.draws⟩) := by
  simp [plus, World.alloc, More.add]
theorem rword_n (A : Option Addr) (xs : List Nat) (n c k : Nat) (i : Int) (v : Nat) (w : World) (h : Lim w A xs) (hn : n = xs.length) (hi : i = k) (hv : lim xs k = v) :
    Calls Try.prog 76 #[.slice A n c, .int .i64 i] w fun e w' => e = .returned (.int .u64 (v : Int)) ∧ w = w' := by
  rw [← hv]
  exact rword_c A xs n c k i w h hn hi
theorem alloc_two (w : World) (o p : Obj) : (w.alloc o).alloc p = plus (w.alloc o) ⟨[p], (w.alloc o).drawn⟩ := by
  show ({ (w.alloc o) with heap := (w.alloc o).heap.push p } : World) = _
  unfold plus
  congr 1
theorem rgood_h {neg pb : Bool} {A : Option Addr} {xs us : List Nat} {n c : Nat} (hid : Hid (decide (bigI neg xs < 0) = pb ∧ dig (bigI neg xs).natAbs = us)) (w : World) (h : Arg w A xs n c) :
    Calls Try.prog 60 #[.agg #[.bool neg, .slice A n c]] w fun e w' => ∃ (A1 : Option Addr) (c1 : Nat), e = .returned (.agg #[.bool pb, .slice A1 us.length c1]) ∧ us.length ≤ c1 ∧ c1 ≤ 9223372036854775807 ∧ Lim w' A1 us ∧ Plus w w' := by
  obtain ⟨rfl, rfl⟩ := hid.out
  exact rgood_c neg A xs n c w h.lim h.len (by have := h.few; omega) h.cap h.max
set_option maxRecDepth 100000 in
set_option maxHeartbeats 8000000 in
theorem rasUint_h (an p : Bool) (A : Option Addr) (xs us : List Nat) (n c k V R : Nat) (z : Int) (w : World) (ha : Hid (Arg w A xs n c)) (h1 : Hid (decide (bigI an xs < 0) = p ∧ dig (bigI an xs).natAbs = us)) (HUV : Hid (val us = V)) (HU : Hid (us.length ≤ 8)) (HZ : Hid (z = k)) (HK : Hid (k ≤ 256)) (hz0 : 0 ≤ z) (hz1 : z ≤ 256) (HPL : Hid ((dig (2 ^ k)).length ≤ 9)) (HLR : Hid (V % 2 ^ k = R)) (HRL : Hid ((dig R).length ≤ 9))
    (Nn : Int) (hc : (p = false ∧ Nn = R) ∨ (p = true ∧ R = 0 ∧ Nn = 0) ∨ (p = true ∧ 0 < R ∧ Nn = ((2 ^ k - R : Nat) : Int))) :
    Calls Try.prog 37 #[.int .i64 z, .agg #[.bool an, .slice A n c]] w (RetBigX Nn 0 w) := by
  have HC := Lib.hid hc
  clear hc
  go_enter Try.func37, Try.ntmps37
  go_wp2_with fail
  with_reducible refine (rgood_h h1 _ (ha.out.plus (by repeat' (first | exact Plus.refl _ | refine Plus.alloc ?_ _ | refine Plus.plus ?_ _ | refine Plus.drew ?_ | refine Plus.drewN ?_ _)))).mono ?_
  rintro e w1 ⟨A1, c1, rfl, q1, q2, q3, ⟨x1, rfl⟩⟩
  have HL := Lib.hid q3
  clear q3
  go_upto_region 4 with fail
  refine wp_region_noPanic ?_
  refine wp_region_held_drew (S := (fun w' => w'.cell? ⟨w.heap.size + 1 + 1 + x1.blocks.length, 0, none⟩ = some (.bool p) ∧ w'.cell? ⟨w.heap.size + 1 + 1 + x1.blocks.length, 1, none⟩ = some (.slice A1 us.length c1))) (by kernel_rfl) (by (refine ⟨?_, ?_⟩ <;> simp [go_sem])) (fun hHeld => ?_)
  refine wpAnyH_take (i := 0) (oi := { dst := some 19, op := Go.Op.fieldAddr 24 (Go.Operand.tmp 6) 1, type := 0, pos := "ref.go:211", after := #[], guard := none }) (v := ?v4_0) rfl (by kernel_rfl) (by kernel_rfl) (by kernel_rfl) (fun _ _ _ h => h) (Or.inl ⟨by rfl, ?hy4_0⟩) hHeld ?_
  case hy4_0 => (intro w hSw; (try dsimp only at hSw); go_simp; first | done | with_reducible rfl)
  try simp only [Act.put, List.setIfInBounds_toArray, List.set_cons_zero, List.set_cons_succ]
  refine wpAnyH_take (i := 1) (oi := { dst := some 20, op := Go.Op.load 22 (Go.Operand.tmp 19), type := 22, pos := "ref.go:211", after := #[{ on := 0, ground := Go.Ground.data }], guard := none }) (v := ?v4_1) rfl (by kernel_rfl) (by kernel_rfl) (by kernel_rfl) (fun _ _ _ h => h) (Or.inl ⟨by rfl, ?hy4_1⟩) hHeld ?_
  case hy4_1 => (intro w hSw; (try dsimp only at hSw); go_simp; first | done | with_reducible rfl)
  try simp only [Act.put, List.setIfInBounds_toArray, List.set_cons_zero, List.set_cons_succ]
  refine wpAnyH_take (i := 2) (oi := { dst := some 21, op := Go.Op.move (Go.Operand.tmp 0), type := 3, pos := "ref.go:211", after := #[], guard := none }) (v := ?v4_2) rfl (by kernel_rfl) (by kernel_rfl) (by kernel_rfl) (fun _ _ _ h => h) (Or.inl ⟨by rfl, ?hy4_2⟩) hHeld ?_
  case hy4_2 => (intro w hSw; (try dsimp only at hSw); go_simp; first | done | with_reducible rfl)
  try simp only [Act.put, List.setIfInBounds_toArray, List.set_cons_zero, List.set_cons_succ]
  refine wpAnyH_ready (rs := [3]) (by kernel_rfl) (by simp) ?_
  refine AllReadyH.cons (o := { dst := some 22, op := Go.Op.call { callee := Go.Callee.value (Go.Operand.func 72), args := #[Go.Operand.tmp 21], argTypes := #[3] }, type := 22, pos := "ref.go:211", after := #[{ on := 2, ground := Go.Ground.data }], guard := none }) rfl (fun K hK => ?_) AllReadyH.nil
  go_simp
  (with_reducible refine (rpower_c k _ HZ.out (by have := HK.out; omega) _).mono ?_); rintro e w1 ⟨g, os, rfl, g1, g2, g3, g4, g5⟩; (obtain ⟨x2, rfl⟩ := Plus.of_below g5; (try simp only [plus_drew] at g2); have HG := Lib.hid g2; have HV := Lib.hid g3; have HN := Lib.hid g4; clear g1 g2 g3 g4 g5)
  go_wp2_with fail
  refine hK.out _ _ (by (try dsimp only); (refine ⟨?_, ?_⟩ <;> simp [go_sem])) (fun hHeld1 => ?_)
  clear hK K hHeld
  try simp only [Act.put, List.setIfInBounds_toArray, List.set_cons_zero, List.set_cons_succ]
  refine wpAnyH_ready (rs := [4]) (by kernel_rfl) (by simp) ?_
  refine AllReadyH.cons (o := { dst := some 23, op := Go.Op.call { callee := Go.Callee.value (Go.Operand.func 71), args := #[Go.Operand.tmp 22], argTypes := #[22] }, type := 22, pos := "ref.go:211", after := #[{ on := 3, ground := Go.Ground.data }, { on := 3, ground := Go.Ground.chain }], guard := none }) rfl (fun K hK => ?_) AllReadyH.nil
  go_simp
  (with_reducible refine (rtrim_c (some ⟨g, 0, none⟩) os os.length os.length _ HG.out.toLim rfl (Nat.le_refl _) (by have := HN.out; have := HK.out; omega) (by have := HN.out; have := HK.out; omega)).mono ?_); rintro e w1 ⟨A2, c2, rfl, h1, h2, h3, ⟨x3, rfl⟩, h5⟩; (rw [HV.out] at h1 h3 ⊢; (try simp only [plus_drew] at h3); have HT := Lib.hid h3; clear h3 h5)
  go_wp2_with fail
  refine hK.out _ _ (by (try dsimp only); (refine ⟨?_, ?_⟩ <;> simp [go_sem])) (fun hHeld2 => ?_)
  clear hK K hHeld1
  try simp only [Act.put, List.setIfInBounds_toArray, List.set_cons_zero, List.set_cons_succ]
  refine wpAnyH_ready (rs := [5]) (by kernel_rfl) (by simp) ?_
  refine AllReadyH.cons (o := { dst := some 24, op := Go.Op.call { callee := Go.Callee.value (Go.Operand.func 66), args := #[Go.Operand.tmp 20, Go.Operand.tmp 23], argTypes := #[22, 22] }, type := 59, pos := "ref.go:211", after := #[{ on := 1, ground := Go.Ground.data }, { on := 4, ground := Go.Ground.data }, { on := 4, ground := Go.Ground.chain }], guard := none }) rfl (fun K hK => ?_) AllReadyH.nil
  go_simp
  (with_reducible refine (rdivide_c A1 A2 us (dig (2 ^ k)) us.length c1 (dig (2 ^ k)).length c2 _ (HL.out.plus (by repeat' (first | exact Plus.refl _ | refine Plus.alloc ?_ _ | refine Plus.plus ?_ _ | refine Plus.drew ?_ | refine Plus.drewN ?_ _))) HT.out rfl rfl (by have := HU.out; omega) (by have := HPL.out; omega) (by rw [val_dig]; exact Nat.two_pow_pos _)).mono ?_); rintro e w1 ⟨A3, A4, c3, c4, rfl, d1, d2, d3, d4, d5, d6, ⟨x4, rfl⟩⟩; (rw [val_dig, HUV.out] at d1 d3 d5 d6 ⊢; (try simp only [plus_drew] at d6); have HR := Lib.hid d6; clear d1 d5 d6)
  go_wp2_with fail
  refine hK.out _ _ (by (try dsimp only); (refine ⟨?_, ?_⟩ <;> simp [go_sem])) (fun hHeld3 => ?_)
  clear hK K hHeld2
  try simp only [Act.put, List.setIfInBounds_toArray, List.set_cons_zero, List.set_cons_succ]
  refine wpAnyH_take (i := 6) (oi := { dst := some 18, op := Go.Op.move (Go.Operand.tmp 24), type := 59, pos := "ref.go:211", after := #[{ on := 5, ground := Go.Ground.data }], guard := none }) (v := ?v4_6) rfl (by kernel_rfl) (by kernel_rfl) (by kernel_rfl) (fun _ _ _ h => h) (Or.inl ⟨by rfl, ?hy4_6⟩) hHeld3 ?_
  case hy4_6 => (intro w hSw; (try dsimp only at hSw); go_simp; first | done | with_reducible rfl)
  try simp only [Act.put, List.setIfInBounds_toArray, List.set_cons_zero, List.set_cons_succ]
  refine wpAnyH_take (i := 7) (oi := { dst := some 25, op := Go.Op.extract (Go.Operand.tmp 18) 0, type := 22, pos := "ref.go:211", after := #[{ on := 6, ground := Go.Ground.data }], guard := none }) (v := ?v4_7) rfl (by kernel_rfl) (by kernel_rfl) (by kernel_rfl) (fun _ _ _ h => h) (Or.inl ⟨by rfl, ?hy4_7⟩) hHeld3 ?_
  case hy4_7 => (intro w hSw; (try dsimp only at hSw); go_simp; first | done | with_reducible rfl)
  try simp only [Act.put, List.setIfInBounds_toArray, List.set_cons_zero, List.set_cons_succ]
  refine wpAnyH_take (i := 8) (oi := { dst := some 26, op := Go.Op.extract (Go.Operand.tmp 18) 1, type := 22, pos := "ref.go:211", after := #[{ on := 6, ground := Go.Ground.data }, { on := 9, ground := Go.Ground.gcOnly Go.Departure.lateStores }], guard := none }) (v := ?v4_8) rfl (by kernel_rfl) (by kernel_rfl) (by kernel_rfl) (fun _ _ _ h => h) (Or.inl ⟨by rfl, ?hy4_8⟩) hHeld3 ?_
  case hy4_8 => (intro w hSw; (try dsimp only at hSw); go_simp; first | done | with_reducible rfl)
  try simp only [Act.put, List.setIfInBounds_toArray, List.set_cons_zero, List.set_cons_succ]
  refine wpAnyH_take (i := 9) (oi := { dst := some 7, op := Go.Op.assign (Go.Operand.tmp 25), type := 22, pos := "ref.go:211", after := #[{ on := 7, ground := Go.Ground.data }, { on := 5, ground := Go.Ground.chain }, { on := 0, ground := Go.Ground.phase }, { on := 1, ground := Go.Ground.phase }, { on := 2, ground := Go.Ground.phase }, { on := 3, ground := Go.Ground.phase }, { on := 4, ground := Go.Ground.phase }, { on := 5, ground := Go.Ground.phase }, { on := 6, ground := Go.Ground.phase }, { on := 7, ground := Go.Ground.phase }, { on := 8, ground := Go.Ground.textOnly Go.Departure.lateStores }], guard := none }) (v := ?v4_9) rfl (by kernel_rfl) (by kernel_rfl) (by kernel_rfl) (fun _ _ _ h => h) (Or.inl ⟨by rfl, ?hy4_9⟩) hHeld3 ?_
  case hy4_9 => (intro w hSw; (try dsimp only at hSw); go_simp; first | done | with_reducible rfl)
  try simp only [Act.put, List.setIfInBounds_toArray, List.set_cons_zero, List.set_cons_succ]
  refine wpAnyH_take (i := 10) (oi := { dst := some 8, op := Go.Op.assign (Go.Operand.tmp 26), type := 22, pos := "ref.go:211", after := #[{ on := 8, ground := Go.Ground.data }, { on := 9, ground := Go.Ground.chain }, { on := 0, ground := Go.Ground.phase }, { on := 1, ground := Go.Ground.phase }, { on := 2, ground := Go.Ground.phase }, { on := 3, ground := Go.Ground.phase }, { on := 4, ground := Go.Ground.phase }, { on := 5, ground := Go.Ground.phase }, { on := 6, ground := Go.Ground.phase }, { on := 7, ground := Go.Ground.phase }, { on := 8, ground := Go.Ground.phase }, { on := 9, ground := Go.Ground.phase }], guard := none }) (v := ?v4_10) rfl (by kernel_rfl) (by kernel_rfl) (by kernel_rfl) (fun _ _ _ h => h) (Or.inl ⟨by rfl, ?hy4_10⟩) hHeld3 ?_
  case hy4_10 => (intro w hSw; (try dsimp only at hSw); go_simp; first | done | with_reducible rfl)
  try simp only [Act.put, List.setIfInBounds_toArray, List.set_cons_zero, List.set_cons_succ]
  refine wpAnyH_done (by kernel_rfl) ?_ _
  refine NoPanic.normal ?_
  rw [HLR.out] at HR d3 ⊢
  rcases HC.out with ⟨rfl, hN⟩ | ⟨rfl, rfl, hN⟩ | ⟨rfl, hR0, hN⟩
  · subst hN
    go_wp2_with fail
    refine (rmade_c false A4 (dig R) (dig R).length c4 _ (HR.out.plus (by repeat' (first | exact Plus.refl _ | refine Plus.alloc ?_ _ | refine Plus.plus ?_ _ | refine Plus.drew ?_ | refine Plus.drewN ?_ _))) rfl d3 d4 (by have := HRL.out; omega)).mono ?_
    rintro e w1 ⟨A5, c5, rfl, r1, r2, r3, ⟨x5, rfl⟩⟩
    rw [val_dig, sgn_fa] at r1 r3 ⊢
    have R1 := Lib.hid r1
    have R3 := Lib.hid r3
    clear r1 r3
    go_wp2_with fail
    go_returns
    have r3 := R3.out
    refine ⟨A5, c5, by first | rfl | simp [dig_zero], R1.out, r2, ?_, ?_⟩
    · simp only [alloc_plus, plus_add] at r3 ⊢
      exact r3.res
    · repeat' (first | exact Plus.refl _ | refine Plus.alloc ?_ _ | refine Plus.plus ?_ _ | refine Plus.drew ?_ | refine Plus.drewN ?_ _)
  · subst hN
    have e0 : (dig 0).length = 0 := by rw [dig_zero]; rfl
    rw [e0] at d3 ⊢
    go_wp2_with fail
    refine (rmade_c false A4 (dig 0) 0 c4 _ (HR.out.plus (by repeat' (first | exact Plus.refl _ | refine Plus.alloc ?_ _ | refine Plus.plus ?_ _ | refine Plus.drew ?_ | refine Plus.drewN ?_ _))) e0.symm (by rw [e0]; exact d3) d4 (by rw [e0]; decide)).mono ?_
    rintro e w1 ⟨A5, c5, rfl, r1, r2, r3, ⟨x5, rfl⟩⟩
    rw [val_dig, sgn_fa] at r1 r3 ⊢
    have R1 := Lib.hid r1
    have R3 := Lib.hid r3
    clear r1 r3
    go_wp2_with fail
    go_returns
    have r3 := R3.out
    refine ⟨A5, c5, by first | rfl | simp [dig_zero], R1.out, r2, ?_, ?_⟩
    · simp only [alloc_plus, plus_add] at r3 ⊢
      exact r3.res
    · repeat' (first | exact Plus.refl _ | refine Plus.alloc ?_ _ | refine Plus.plus ?_ _ | refine Plus.drew ?_ | refine Plus.drewN ?_ _)
  · subst hN
    obtain ⟨L, hL⟩ : ∃ L, (dig R).length = L := ⟨_, rfl⟩
    have hL0 : 0 < L := by rw [← hL]; exact Nat.pos_of_ne_zero (dig_ne (by omega))
    have hL1 : (0 : Int) < (L : Int) := by omega
    have HLL := Lib.hid hL
    have hRL := HRL.out
    rw [hL] at d3 hRL ⊢
    have HR0 := Lib.hid hR0
    clear hL hR0
    go_wp2_with fail
    with_reducible refine (rpower_c k _ HZ.out (by have := HK.out; omega) _).mono ?_
    rintro e w1 ⟨g2, os2, rfl, g1, g2', g3, g4, g5⟩
    obtain ⟨x5, rfl⟩ := Plus.of_below g5
    have HG2 := Lib.hid g2'
    have HV2 := Lib.hid g3
    have HN2 := Lib.hid g4
    clear g1 g2' g3 g4 g5
    go_wp2_with fail
    refine (rminus_c (some ⟨g2, 0, none⟩) A4 os2 (dig R) os2.length os2.length L c4 _ HG2.out.toLim (HR.out.plus (by repeat' (first | exact Plus.refl _ | refine Plus.alloc ?_ _ | refine Plus.plus ?_ _ | refine Plus.drew ?_ | refine Plus.drewN ?_ _))) rfl HLL.out.symm (by have := HN2.out; have := HK.out; omega) (by rw [HV2.out, val_dig, ← HLR.out]; exact Nat.le_of_lt (Nat.mod_lt _ (Nat.two_pow_pos _)))).mono ?_
    rintro e w1 ⟨A6, c6, rfl, m1, m2, m3, ⟨x6, rfl⟩, m5⟩
    rw [HV2.out, val_dig] at m1 m3 ⊢
    have HM3 := Lib.hid m3
    have hML : (dig (2 ^ k - R)).length ≤ 9 := dig_len_le (Nat.lt_of_le_of_lt (Nat.sub_le _ _) (lt_of_dig_len HPL.out))
    clear m3 m5
    go_wp2_with fail
    refine (rmade_c false A6 (dig (2 ^ k - R)) (dig (2 ^ k - R)).length c6 _ HM3.out rfl m1 m2 (by omega)).mono ?_
    rintro e w1 ⟨A5, c5, rfl, r1, r2, r3, ⟨x7, rfl⟩⟩
    rw [val_dig, sgn_fa] at r1 r3 ⊢
    have R1 := Lib.hid r1
    have R3 := Lib.hid r3
    clear r1 r3
    go_wp2_with fail
    go_returns
    have r3 := R3.out
    refine ⟨A5, c5, by first | rfl | simp [dig_zero], R1.out, r2, ?_, ?_⟩
    · simp only [alloc_plus, plus_add] at r3 ⊢
      exact r3.res
    · repeat' (first | exact Plus.refl _ | refine Plus.alloc ?_ _ | refine Plus.plus ?_ _ | refine Plus.drew ?_ | refine Plus.drewN ?_ _)

theorem rasUint_c {an : Bool} {A : Option Addr} {xs : List Nat} {n c : Nat} (z : Int) (k : Nat) (hz : z = k) (hk : k ≤ 256) (w : World) (ha : Arg w A xs n c) :
    Calls Try.prog 37 #[.int .i64 z, .agg #[.bool an, .slice A n c]] w (RetBigX (bigI an xs % 2 ^ k) 0 w) := by
  obtain ⟨X, hX⟩ : ∃ X, bigI an xs = X := ⟨_, rfl⟩
  have hab : X.natAbs < B ^ 8 := by rw [← hX]; exact bigI_abs ha.lim.1
  have h2k : 2 ^ k ≤ B ^ 8 := by rw [pow_bits]; exact Nat.pow_le_pow_right (by decide) (by omega)
  have h89 : B ^ 8 < B ^ 9 := by decide
  have hR : X.natAbs % 2 ^ k < 2 ^ k := Nat.mod_lt _ (Nat.two_pow_pos k)
  have hp : (2 : Int) ^ k = ((2 ^ k : Nat) : Int) := by rw [Int.natCast_pow]; rfl
  rw [hX]
  refine rasUint_h an (decide (X < 0)) A xs (dig X.natAbs) n c k X.natAbs (X.natAbs % 2 ^ k) z w (Lib.hid ha) (Lib.hid (by rw [hX]; exact ⟨rfl, rfl⟩)) (Lib.hid (val_dig _)) (Lib.hid (dig_len_le hab)) (Lib.hid hz) (Lib.hid hk) (by omega) (by omega) (Lib.hid (dig_len_le (by omega))) (Lib.hid rfl) (Lib.hid (dig_len_le (by omega))) (X % 2 ^ k) ?_
  rw [hp]
  by_cases h0 : X < 0
  · have hXn : X = -((X.natAbs : Nat) : Int) := by omega
    rw [decide_eq_true h0]
    by_cases hr : X.natAbs % 2 ^ k = 0
    · refine .inr (.inl ⟨rfl, hr, ?_⟩)
      have e := Nat.div_add_mod X.natAbs (2 ^ k)
      rw [hr, Nat.add_zero] at e
      generalize X.natAbs / 2 ^ k = q at e
      have : X = ((2 ^ k : Nat) : Int) * (-(q : Int)) := by
        rw [hXn, ← e, Int.natCast_mul, Int.mul_neg]
      rw [this, Int.mul_emod_right]
    · refine .inr (.inr ⟨rfl, by omega, ?_⟩)
      have e := Nat.div_add_mod X.natAbs (2 ^ k)
      generalize X.natAbs / 2 ^ k = q at e
      generalize X.natAbs % 2 ^ k = r at *
      have : X = ((2 ^ k - r : Nat) : Int) + ((2 ^ k : Nat) : Int) * (-(q : Int) - 1) := by
        rw [hXn, ← e, Int.natCast_sub (by omega), Int.mul_sub, Int.mul_neg, Int.natCast_add, Int.natCast_mul]
        omega
      rw [this, Int.add_mul_emod_self_left, Int.emod_eq_of_lt (Int.natCast_nonneg _) (by omega)]
  · refine .inl ⟨decide_eq_false h0, ?_⟩
    have hXn : X = ((X.natAbs : Nat) : Int) := by omega
    rw [hXn]
    simp

theorem rasUint_v {an : Bool} {A : Option Addr} {xs us : List Nat} {n c : Nat} {z R : Int} {k : Nat} (hz : Hid (z = k)) (hk : Hid (k ≤ 256)) (hR : Hid (bigI an xs % 2 ^ k = R ∧ decide (R < 0) = false ∧ dig R.natAbs = us)) (w : World) (ha : Arg w A xs n c) :
    Calls Try.prog 37 #[.int .i64 z, .agg #[.bool an, .slice A n c]] w fun e w' => ∃ (A1 : Option Addr) (c1 : Nat), e = .returned (.tuple #[.agg #[.bool false, .slice A1 us.length c1], .int .i64 0]) ∧ us.length ≤ c1 ∧ c1 ≤ 9223372036854775807 ∧ Lim w' A1 us ∧ Plus w w' := by
  obtain ⟨rfl, h2, rfl⟩ := hR.out
  refine (rasUint_c z k hz.out hk.out w ha).mono ?_
  rintro e w1 ⟨A1, c1, rfl, q1, q2, q3, q4⟩
  rw [h2]
  exact ⟨A1, c1, rfl, q1, q2, q3, q4⟩
set_option maxRecDepth 100000 in
set_option maxHeartbeats 4000000 in
theorem rbWord_h (an : Bool) (A : Option Addr) (xs us : List Nat) (R : Int) (n c a b : Nat) (w : World) (ha : Hid (Arg w A xs n c))
    (hR : Hid (bigI an xs % 2 ^ 64 = R ∧ decide (R < 0) = false ∧ dig R.natAbs = us)) (hla : Hid (lim us 0 = a)) (hlb : Hid (lim us 1 = b)) (V : Int) (hv1 : IntKind.u64.wrap ((b : Int) * 4294967296) = (b : Int) * 4294967296) (hV : IntKind.u64.wrap ((a : Int) + (b : Int) * 4294967296) = V) :
    Calls Try.prog 41 #[.agg #[.bool an, .slice A n c]] w fun e w' => e = .returned (.int .u64 V) ∧ Plus w w' := by
  have HZ0 : Hid ((64 : Int) = ((64 : Nat) : Int)) := Lib.hid rfl
  have HK0 : Hid (64 ≤ 256) := Lib.hid (by decide)
  go_enter Try.func41, Try.ntmps41
  go_upto_region 2 with (go_at_call 37; (with_reducible refine (rasUint_v HZ0 HK0 hR _ (ha.out.plus (by repeat' (first | exact Plus.refl _ | refine Plus.alloc ?_ _ | refine Plus.plus ?_ _ | refine Plus.drew ?_ | refine Plus.drewN ?_ _)))).mono ?_); rintro e w1 ⟨A1, c1, rfl, q1, q2, q3, ⟨x1, rfl⟩⟩; have Q3 := Lib.hid q3; clear q3)
  have Q4 := Lib.hid (Q3.out.alloc (.cells #[.bool false, .slice A1 us.length c1] 24))
  have H0 : Hid ((0 : Int) = ((0 : Nat) : Int)) := Lib.hid rfl
  have H1 : Hid ((1 : Int) = ((1 : Nat) : Int)) := Lib.hid rfl
  go_quiet ((first | (go_at_call 76; with_reducible exact Calls.quiet_of_same ((rword_n A1 us us.length c1 0 0 a _ (by first | exact Q4.out | exact Q4.out.drewN _) rfl H0.out hla.out).mono fun _ _ ⟨a, b⟩ => ⟨a, b.symm⟩)) | (go_at_call 76; with_reducible exact Calls.quiet_of_same ((rword_n A1 us us.length c1 1 1 b _ (by first | exact Q4.out | exact Q4.out.drewN _) rfl H1.out hlb.out).mono fun _ _ ⟨a, b⟩ => ⟨a, b.symm⟩))))
  go_wp2
  go_ret
  exact ⟨rfl, (by repeat' (first | exact Plus.refl _ | refine Plus.alloc ?_ _ | refine Plus.plus ?_ _ | refine Plus.drew ?_ | refine Plus.drewN ?_ _))⟩

theorem rbWord_c {an : Bool} {A : Option Addr} {xs : List Nat} {n c : Nat} (w : World) (ha : Arg w A xs n c) :
    Calls Try.prog 41 #[.agg #[.bool an, .slice A n c]] w fun e w' => e = .returned (.int .u64 (wordR (bigI an xs) : Nat)) ∧ Plus w w' := by
  have hp : (0 : Int) < 2 ^ 64 := by decide
  have r0 := Int.emod_nonneg (bigI an xs) (Int.ne_of_gt hp)
  have r1 := Int.emod_lt_of_pos (bigI an xs) hp
  have hd : decide (bigI an xs % 2 ^ 64 < 0) = false := by simp; omega
  have hv : val (dig (bigI an xs % 2 ^ 64).natAbs) = wordR (bigI an xs) := by rw [val_dig]; unfold wordR; omega
  have hv2 : val (dig (bigI an xs % 2 ^ 64).natAbs) < 2 ^ 64 := by rw [hv]; unfold wordR; omega
  have hlim := word_limbs hv2
  rw [hv] at hlim
  have l0 := lim_lt (okL_dig (bigI an xs % 2 ^ 64).natAbs) 0
  have l1 := lim_lt (okL_dig (bigI an xs % 2 ^ 64).natAbs) 1
  have eB := B_eq
  refine rbWord_h an A xs (dig (bigI an xs % 2 ^ 64).natAbs) (bigI an xs % 2 ^ 64) n c _ _ w (Lib.hid ha) (Lib.hid ⟨rfl, hd, rfl⟩) (Lib.hid rfl) (Lib.hid rfl) _ ?_ ?_
  · rw [IntKind.wrap_u64]
    omega
  · rw [IntKind.wrap_u64]
    omega

theorem Lim.lit2 (w : World) (g a b : Nat) (hg : g = w.heap.size) (ha : a < B) (hb : b < B) : Lim (w.alloc (.cells #[.int .u32 (a : Int), .int .u32 (b : Int)] 53)) (some ⟨g, 0, none⟩) [a, b] := by
  subst hg
  exact (Own.two w a b 53 _ _ rfl rfl ha hb).toLim
set_option maxRecDepth 100000 in
set_option maxHeartbeats 8000000 in
theorem rfromWord_h (v a b : Nat) (zv : Int) (s : Bool) (us : List Nat) (w : World) (HUV : Hid (val us = v)) (hA : Hid (a < B)) (hB : Hid (b < B)) (hv4 : Hid (val [a, b] = v)) (hus : Hid (dig v = us)) (hand : bits BinOp.and IntKind.u64 zv 4294967295 = (a : Int)) (hdiv : zv / 4294967296 = (b : Int)) (ha1 : (a : Int) ≤ 4294967295) (hb1 : (b : Int) ≤ 4294967295) (HLT : Hid (v ≤ 2 ^ 64)) (y : Nat) (HY : Hid (2 ^ 64 - v = y)) (HDL : Hid ((dig y).length ≤ 9)) (z : Int)
    (hc : (s = false ∧ z = v) ∨ (s = true ∧ zv < 9223372036854775808 ∧ z = v) ∨ (s = true ∧ 9223372036854775808 ≤ zv ∧ z = -(y : Int))) :
    Calls Try.prog 43 #[.int .u64 zv, .bool s] w (RetBig z w) := by
  rcases hc with ⟨rfl, hz⟩ | ⟨rfl, hlt, hz⟩ | ⟨rfl, hge, hz⟩
  · have HZ := Lib.hid hz
    clear hz
    go_enter Try.func43, Try.ntmps43
    go_wp2_with fail
    refine (rmade_c false (some ⟨w.heap.size + 1, 0, none⟩) [a, b] 2 2 _ (Lim.lit2 (w.alloc (.cells #[.bool false, .slice none 0 0] 24)) (w.heap.size + 1) a b (by simp) hA.out hB.out) rfl (by simp) (by decide) (by simp)).mono ?_
    rintro e w1 ⟨A1, c1, rfl, r1, r2, r3, ⟨x1, rfl⟩⟩
    rw [hv4.out, sgn_fa, Int.natAbs_natCast, hus.out] at r1 r3
    rw [hv4.out, sgn_fa, show decide (((v : Nat) : Int) < 0) = false by simp, Int.natAbs_natCast, hus.out]
    have HL := Lib.hid r3
    have HL1 := Lib.hid r1
    clear r3 r1
    go_wp2_with fail
    go_returns
    rw [HZ.out]
    refine ⟨A1, c1, ?_, by rw [Int.natAbs_natCast, hus.out]; exact HL1.out, r2, ?_, (by repeat' (first | exact Plus.refl _ | refine Plus.alloc ?_ _ | refine Plus.plus ?_ _ | refine Plus.drew ?_ | refine Plus.drewN ?_ _))⟩
    · rw [show decide (((v : Nat) : Int) < 0) = false by simp, Int.natAbs_natCast, hus.out]
    · have r3 := HL.out
      rw [Int.natAbs_natCast, hus.out]
      have r4 := r3.alloc (.cells #[.bool false, .slice A1 us.length c1] 24)
      simp only [alloc_two, alloc_plus, plus_add] at r4 ⊢
      exact r4.res
  · have HZ := Lib.hid hz
    clear hz
    go_enter Try.func43, Try.ntmps43
    go_wp2_with fail
    refine (rmade_c false (some ⟨w.heap.size + 1, 0, none⟩) [a, b] 2 2 _ (Lim.lit2 (w.alloc (.cells #[.bool false, .slice none 0 0] 24)) (w.heap.size + 1) a b (by simp) hA.out hB.out) rfl (by simp) (by decide) (by simp)).mono ?_
    rintro e w1 ⟨A1, c1, rfl, r1, r2, r3, ⟨x1, rfl⟩⟩
    rw [hv4.out, sgn_fa, Int.natAbs_natCast, hus.out] at r1 r3
    rw [hv4.out, sgn_fa, show decide (((v : Nat) : Int) < 0) = false by simp, Int.natAbs_natCast, hus.out]
    have HL := Lib.hid r3
    have HL1 := Lib.hid r1
    clear r3 r1
    go_wp2_with fail
    go_returns
    rw [HZ.out]
    refine ⟨A1, c1, ?_, by rw [Int.natAbs_natCast, hus.out]; exact HL1.out, r2, ?_, (by repeat' (first | exact Plus.refl _ | refine Plus.alloc ?_ _ | refine Plus.plus ?_ _ | refine Plus.drew ?_ | refine Plus.drewN ?_ _))⟩
    · rw [show decide (((v : Nat) : Int) < 0) = false by simp, Int.natAbs_natCast, hus.out]
    · have r3 := HL.out
      rw [Int.natAbs_natCast, hus.out]
      have r4 := r3.alloc (.cells #[.bool false, .slice A1 us.length c1] 24)
      simp only [alloc_two, alloc_plus, plus_add] at r4 ⊢
      exact r4.res
  · have HZ := Lib.hid hz
    clear hz
    go_enter Try.func43, Try.ntmps43
    go_wp2_with fail
    refine (rmade_c false (some ⟨w.heap.size + 1, 0, none⟩) [a, b] 2 2 _ (Lim.lit2 (w.alloc (.cells #[.bool false, .slice none 0 0] 24)) (w.heap.size + 1) a b (by simp) hA.out hB.out) rfl (by simp) (by decide) (by simp)).mono ?_
    rintro e w1 ⟨A1, c1, rfl, r1, r2, r3, ⟨x1, rfl⟩⟩
    rw [hv4.out, sgn_fa, Int.natAbs_natCast, hus.out] at r1 r3
    rw [hv4.out, sgn_fa, show decide (((v : Nat) : Int) < 0) = false by simp, Int.natAbs_natCast, hus.out]
    have HL := Lib.hid r3
    have HL1 := Lib.hid r1
    clear r3 r1
    go_upto_region 3 with fail
    refine wp_region_noPanic ?_
    refine wp_region_held_drew (S := (fun w' => w'.cell? ⟨w.heap.size + 1 + 1 + x1.blocks.length, 0, none⟩ = some (.bool false) ∧ w'.cell? ⟨w.heap.size + 1 + 1 + x1.blocks.length, 1, none⟩ = some (.slice A1 us.length c1))) (by kernel_rfl) (by (refine ⟨?_, ?_⟩ <;> simp [go_sem])) (fun hHeld => ?_)
    refine wpAnyH_take (i := 1) (oi := { dst := some 20, op := Go.Op.fieldAddr 24 (Go.Operand.tmp 5) 1, type := 0, pos := "ref.go:237", after := #[], guard := none }) (v := ?v3_1) rfl (by kernel_rfl) (by kernel_rfl) (by kernel_rfl) (fun _ _ _ h => h) (Or.inl ⟨by rfl, ?hy3_1⟩) hHeld ?_
    case hy3_1 => (intro w hSw; (try dsimp only at hSw); go_simp; first | done | with_reducible rfl)
    try simp only [Act.put, List.setIfInBounds_toArray, List.set_cons_zero, List.set_cons_succ]
    refine wpAnyH_take (i := 2) (oi := { dst := some 21, op := Go.Op.load 22 (Go.Operand.tmp 20), type := 22, pos := "ref.go:237", after := #[{ on := 1, ground := Go.Ground.data }], guard := none }) (v := ?v3_2) rfl (by kernel_rfl) (by kernel_rfl) (by kernel_rfl) (fun _ _ _ h => h) (Or.inl ⟨by rfl, ?hy3_2⟩) hHeld ?_
    case hy3_2 => (intro w hSw; (try dsimp only at hSw); go_simp; first | done | with_reducible rfl)
    try simp only [Act.put, List.setIfInBounds_toArray, List.set_cons_zero, List.set_cons_succ]
    refine wpAnyH_ready (rs := [0]) (by kernel_rfl) (by simp) ?_
    refine AllReadyH.cons (o := { dst := some 19, op := Go.Op.call { callee := Go.Callee.value (Go.Operand.func 72), args := #[Go.Operand.const (Go.Value.int Go.IntKind.i64 64)], argTypes := #[3] }, type := 22, pos := "ref.go:237", after := #[], guard := none }) rfl (fun K hK => ?_) AllReadyH.nil
    go_simp
    (with_reducible refine (rpower_c 64 64 rfl (by decide) _).mono ?_); rintro e w1 ⟨g, os, rfl, g1, g2, g3, g4, g5⟩; (obtain ⟨x2, rfl⟩ := Plus.of_below g5; (try simp only [plus_drew] at g2); have HG := Lib.hid g2; have HV := Lib.hid g3; have HN := Lib.hid g4; clear g1 g2 g3 g4 g5)
    go_wp2_with fail
    refine hK.out _ _ (by (try dsimp only); (refine ⟨?_, ?_⟩ <;> simp [go_sem])) (fun hHeld1 => ?_)
    clear hK K hHeld
    try simp only [Act.put, List.setIfInBounds_toArray, List.set_cons_zero, List.set_cons_succ]
    refine wpAnyH_ready (rs := [3]) (by kernel_rfl) (by simp) ?_
    refine AllReadyH.cons (o := { dst := some 22, op := Go.Op.call { callee := Go.Callee.value (Go.Operand.func 73), args := #[Go.Operand.tmp 19, Go.Operand.tmp 21], argTypes := #[22, 22] }, type := 22, pos := "ref.go:237", after := #[{ on := 0, ground := Go.Ground.data }, { on := 2, ground := Go.Ground.data }, { on := 0, ground := Go.Ground.chain }], guard := none }) rfl (fun K hK => ?_) AllReadyH.nil
    go_simp
    (with_reducible refine (rminus_c (some ⟨g, 0, none⟩) A1 os us os.length os.length us.length c1 _ HG.out.toLim (HL.out.plus (by repeat' (first | exact Plus.refl _ | refine Plus.alloc ?_ _ | refine Plus.plus ?_ _ | refine Plus.drew ?_ | refine Plus.drewN ?_ _))) rfl rfl (by have := HN.out; omega) (by rw [HV.out, HUV.out]; exact HLT.out)).mono ?_); rintro e w1 ⟨A3, c3, rfl, d1, d2, d3, ⟨x3, rfl⟩, d5⟩; (rw [HV.out, HUV.out, HY.out] at d1 d3 ⊢; (try simp only [plus_drew] at d3); have HR := Lib.hid d3; clear d3 d5)
    go_wp2_with fail
    refine hK.out _ _ (by (try dsimp only); (refine ⟨?_, ?_⟩ <;> simp [go_sem])) (fun hHeld2 => ?_)
    clear hK K hHeld1
    try simp only [Act.put, List.setIfInBounds_toArray, List.set_cons_zero, List.set_cons_succ]
    refine wpAnyH_ready (rs := [4]) (by kernel_rfl) (by simp) ?_
    refine AllReadyH.cons (o := { dst := some 23, op := Go.Op.call { callee := Go.Callee.value (Go.Operand.func 62), args := #[Go.Operand.const (Go.Value.bool true), Go.Operand.tmp 22], argTypes := #[4, 22] }, type := 24, pos := "ref.go:237", after := #[{ on := 3, ground := Go.Ground.data }, { on := 3, ground := Go.Ground.chain }], guard := none }) rfl (fun K hK => ?_) AllReadyH.nil
    go_simp
    (with_reducible refine (rmade_c true A3 (dig y) (dig y).length c3 _ HR.out rfl d1 d2 (by have := HDL.out; omega)).mono ?_); rintro e w1 ⟨A4, c4, rfl, e1, e2, e3, ⟨x4, rfl⟩⟩; (rw [val_dig, sgn_tr] at e1 e3 ⊢; (try simp only [plus_drew] at e3); have HQ := Lib.hid e3; have HQ1 := Lib.hid e1; clear e1 e3)
    go_wp2_with fail
    refine hK.out _ _ (by (try dsimp only); (refine ⟨?_, ?_⟩ <;> simp [go_sem])) (fun hHeld3 => ?_)
    clear hK K hHeld2
    try simp only [Act.put, List.setIfInBounds_toArray, List.set_cons_zero, List.set_cons_succ]
    refine wpAnyH_ready (rs := [5]) (by kernel_rfl) (by simp) ?_
    refine AllReadyH.cons (o := { dst := none, op := Go.Op.store 24 (Go.Operand.tmp 4) (Go.Operand.tmp 23), type := 0, pos := "ref.go:237", after := #[{ on := 4, ground := Go.Ground.data }, { on := 4, ground := Go.Ground.chain }, { on := 0, ground := Go.Ground.phase }, { on := 1, ground := Go.Ground.phase }, { on := 2, ground := Go.Ground.phase }, { on := 3, ground := Go.Ground.phase }, { on := 4, ground := Go.Ground.phase }], guard := none }) rfl (fun K hK => ?_) AllReadyH.nil
    go_simp
    refine hK.out _ _ (by (try dsimp only); (refine ⟨?_, ?_⟩ <;> simp [go_sem])) (fun hHeld4 => ?_)
    clear hK K hHeld3
    try simp only [Act.put, List.setIfInBounds_toArray, List.set_cons_zero, List.set_cons_succ]
    refine wpAnyH_done (by kernel_rfl) ?_ _
    refine NoPanic.normal ?_
    go_wp2_with fail
    go_returns
    have r4 := HQ.out
    rw [HZ.out]
    refine ⟨A4, c4, by simp, HQ1.out, e2, ?_, (by repeat' (first | exact Plus.refl _ | refine Plus.alloc ?_ _ | refine Plus.plus ?_ _ | refine Plus.drew ?_ | refine Plus.drewN ?_ _))⟩
    simp only [alloc_two, alloc_plus, plus_add] at r4 ⊢
    exact r4.res

theorem rfromWord_c (v : Nat) (s : Bool) (hv : v < 18446744073709551616) (w : World) :
    Calls Try.prog 43 #[.int .u64 (v : Int), .bool s] w (RetBig (if s = true ∧ 9223372036854775808 ≤ v then (v : Int) - 18446744073709551616 else v) w) := by
  have eB := B_eq
  have eBB := BB
  have e8 : B ^ 8 = 115792089237316195423570985008687907853269984665640564039457584007913129639936 := by decide
  have e9 : B ^ 9 = B ^ 8 * B := rfl
  have e64 : (2 : Nat) ^ 64 = 18446744073709551616 := by decide
  refine rfromWord_h v (v % B) (v / B) v s (dig v) w (Lib.hid (val_dig v)) (Lib.hid (Nat.mod_lt _ B_pos)) (Lib.hid (by rw [Nat.div_lt_iff_lt_mul B_pos, eBB]; exact hv)) (Lib.hid (by simp only [val, Nat.mul_zero, Nat.add_zero]; exact Nat.mod_add_div v B)) (Lib.hid rfl) (low32 hv) (by rw [eB]; omega) (by have := Nat.mod_lt v B_pos; omega) (by rw [eB]; omega) (Lib.hid (by omega)) _ (Lib.hid rfl) (Lib.hid (dig_len_le (by rw [e9, e8, eB]; omega))) _ ?_
  by_cases h : s = true ∧ 9223372036854775808 ≤ v
  · rw [if_pos h]
    exact .inr (.inr ⟨h.1, by omega, by omega⟩)
  · rw [if_neg h]
    cases s
    · exact .inl ⟨rfl, rfl⟩
    · exact .inr (.inl ⟨rfl, by simp at h; omega, rfl⟩)
end Go.Proofs.Ythaokkmbghgopaa
