/- Contract: the document's own reading of one character, walked. -/
import Derived.IntWalk
import Derived.Test.YtlbjjkiflcjkgaaDoorS3
namespace Go.Proofs.YtlbjjkiflcjkgaaDoor
open Go.RowKit


theorem accV_lt (v0 : Nat) {l : List Nat} : ∀ j, accV v0 l j < (v0 + 1) * 64 ^ j
  | 0 => by unfold accV; simp
  | j + 1 => by
    have := accV_lt v0 (l := l) j
    unfold accV
    rw [Nat.pow_succ, ← Nat.mul_assoc]
    omega
def SgRel (v0 n : Nat) (l : List Nat) (s8 s10 : Value) : Prop := ∃ j a : Nat, j + 1 ≤ n ∧ s10 = .int .i64 (j + 1 : Nat) ∧ s8 = .int .i64 (a : Nat) ∧ a = accV v0 l j ∧ conts l j = true
theorem drop_getD (xs : List Nat) (k j : Nat) : (xs.drop k).getD j 0 = xs.getD (k + j) 0 := getD_drop xs k j
def SgP (l : List Nat) (w : World) (e : Ending) (w' : World) : Prop := e = .returned (.tuple #[.int .i64 (sgnK3 l : Nat), .int .i64 (sgnV3 l : Nat)]) ∧ w = w'
theorem sgp_bad {l : List Nat} (w : World) (h : bad l = true) : SgP l w (.returned (.tuple #[.int .i64 0, .int .i64 0])) w := by
  refine ⟨?_, rfl⟩
  unfold sgnK3 sgnV3
  rw [h]
  rfl
theorem sgp_good {l : List Nat} {v n : Nat} (w : World) (h : bad l = false) (hd' : hd l = (v, n)) : SgP l w (.returned (.tuple #[.int .i64 (n : Nat), .int .i64 (v : Nat)])) w := by
  refine ⟨?_, rfl⟩
  unfold sgnK3 sgnV3
  rw [h, hd']
  rfl
set_option maxRecDepth 100000 in
set_option maxHeartbeats 4000000 in
theorem sign_low (g o n c k : Nat) (l : List Nat) (z : Int) (w : World) (hk : k < n) (_hn : n ≤ 5000) (hcell : w.cell? ⟨g, o + k, none⟩ = some (.int .u8 z)) (hz : Hid (z = (l.getD 0 0 : Nat))) (h1 : z < 128) (h0 : 0 ≤ z) :
    Calls Tryd.prog 32 #[.slice (some ⟨g, o, none⟩) n c, .int .i64 k] w (SgP l w) := by
  have hadd := add_addr g o k
  have hb : hd l = (l.getD 0 0, 1) := by unfold hd; exact dN1 (by have := hz.out; omega) rfl
  have hb2 : bad l = false := by
    unfold bad
    rw [hb]
    have h3 : l.getD 0 0 ≠ 65533 := by have := hz.out; omega
    exact Bool.and_eq_false_iff.2 (.inl (beq_eq_false_iff_ne.2 h3))
  have H1 := Lib.hid hb
  have H2 := Lib.hid hb2
  clear hb hb2
  go_enter Tryd.func32, Tryd.ntmps32
  go_wp2
  go_ret2
  have q := sgp_good w H2.out H1.out
  rw [← hz.out] at q
  exact q

set_option maxRecDepth 100000 in
set_option maxHeartbeats 4000000 in
theorem sign_none (g o n c k : Nat) (l : List Nat) (z : Int) (w : World) (hk : k < n) (_hn : n ≤ 5000) (hcell : w.cell? ⟨g, o + k, none⟩ = some (.int .u8 z)) (hB : Hid (bad l = true)) (h1 : 128 ≤ z ∧ z < 192 ∨ 248 ≤ z ∧ z < 256) :
    Calls Tryd.prog 32 #[.slice (some ⟨g, o, none⟩) n c, .int .i64 k] w (SgP l w) := by
  have hadd := add_addr g o k
  rcases h1 with ⟨h1, h2⟩ | ⟨h1, h2⟩
  all_goals
    go_enter Tryd.func32, Tryd.ntmps32
    go_wp2
    go_ret2
    exact sgp_bad w hB.out

set_option maxRecDepth 100000 in
set_option maxHeartbeats 4000000 in
theorem sign_short2 (g o n c k : Nat) (l : List Nat) (z : Int) (w : World) (hk : k < n) (_hn : n ≤ 5000) (hcell : w.cell? ⟨g, o + k, none⟩ = some (.int .u8 z)) (hB : Hid (bad l = true)) (h1 : 192 ≤ z) (h2 : z < 224) (h3 : (n : Int) - k < 2) :
    Calls Tryd.prog 32 #[.slice (some ⟨g, o, none⟩) n c, .int .i64 k] w (SgP l w) := by
  have hadd := add_addr g o k
  go_enter Tryd.func32, Tryd.ntmps32
  go_wp2
  go_ret2
  exact sgp_bad w hB.out
set_option maxRecDepth 100000 in
set_option maxHeartbeats 8000000 in
theorem sign_loop2 (g o n c k : Nat) (xs l : List Nat) (z : Int) (w : World) (hk : k < n) (hn : n ≤ 5000) (hat : Hid (At .u8 w g o xs)) (hxs : Hid (n = xs.length ∧ isB xs)) (hl : Hid (l = xs.drop k)) (hcell : w.cell? ⟨g, o + k, none⟩ = some (.int .u8 z)) (hz : Hid (z = (l.getD 0 0 : Nat))) (h1 : 192 ≤ z) (h2 : z < 224) (h3 : 2 ≤ (n : Int) - k) :
    Calls Tryd.prog 32 #[.slice (some ⟨g, o, none⟩) n c, .int .i64 k] w (SgP l w) := by
  have hadd := add_addr g o k
  obtain ⟨v0, hv0⟩ : ∃ v0 : Nat, (v0 : Int) = z - 192 := ⟨(z - 192).toNat, by omega⟩
  have hv01 : v0 < 32 := by omega
  have HV0 := Lib.hid hv0
  have hvz : z - 192 = v0 := hv0.symm
  clear hv0
  go_enter Tryd.func32, Tryd.ntmps32
  go_wp2
  clear hvz
  go_loop [8, 10] (SgRel v0 2 l) (fun _ s10 => (2 - intOf s10).toNat)
  case atStart => exact ⟨0, v0, by omega, rfl, rfl, rfl, rfl⟩
  case round =>
    obtain ⟨j, a, hj, rfl, rfl, ha, hco⟩ := hrel
    have hab : a < 33554432 := by
      have q := accV_lt v0 (l := l) j
      have q2 : (64 : Nat) ^ j ≤ 64 ^ 3 := Nat.pow_le_pow_right (by decide) (by omega)
      have q3 : (v0 + 1) * 64 ^ j ≤ 32 * 64 ^ 3 := Nat.mul_le_mul (by omega) q2
      rw [ha]
      have q4 : (32 : Nat) * 64 ^ 3 = 8388608 := by decide
      omega
    have HA := Lib.hid ha
    have HC := Lib.hid hco
    clear ha hco
    obtain ⟨ai, hai⟩ : ∃ ai : Int, ai = (a : Int) := ⟨_, rfl⟩
    have HAI := Lib.hid hai
    have ai0 : 0 ≤ ai := by omega
    have ai1 : ai < 33554432 := by omega
    rw [← hai]
    clear hai
    by_cases hlt : j + 1 < 2
    · have hkj : k + (j + 1) < xs.length := by have := hxs.out.1; omega
      have hkn : k + (j + 1) < n := by have := hxs.out.1; omega
      have hc2 := hat.out (k + (j + 1)) hkj
      have hadd2 := add_addr g o (k + (j + 1))
      have htn : ((k : Int) + ((j + 1 : Nat) : Int)).toNat = k + (j + 1) := by omega
      obtain ⟨u, hu⟩ : ∃ u, xs.getD (k + (j + 1)) 0 = u := ⟨_, rfl⟩
      rw [hu] at hc2
      have hub : u < 256 := by rw [← hu]; exact hxs.out.2 _ (getD_mem hkj)
      have hul : l.getD (j + 1) 0 = u := by rw [hl.out, drop_getD, hu]
      have a192 := and192 u hub
      have a63 := and63 u hub
      have HU := Lib.hid hul
      have HUB := Lib.hid hub
      clear hu hul hub
      by_cases hg : u / 64 = 2
      · have b1 : (bits .and .u8 (u : Int) 192 == 128) = true := by rw [a192]; simpa using hg
        have b2 : (bits .and .u8 (u : Int) 192 != 128) = false := by rw [bne, b1]; rfl
        have HG := Lib.hid hg
        obtain ⟨r, hr⟩ : ∃ r : Int, r = ((u % 64 : Nat) : Int) := ⟨_, rfl⟩
        rw [← hr] at a63
        have r0 : 0 ≤ r := by omega
        have r1 : r < 64 := by omega
        have HR := Lib.hid hr
        clear a192 hg hr
        go_wp2
        go_round
        case rel =>
          refine ⟨j + 1, a * 64 + u % 64, by omega, by rw [show ((j + 1 + 1 : Nat) : Int) = (j : Int) + 1 + 1 by omega], ?_, ?_, ?_⟩
          · rw [HAI.out, HR.out]
            congr 1
          · unfold accV
            rw [HU.out, ← HA.out]
          · unfold conts
            rw [HC.out, HU.out]
            simpa using HG.out
        case measure => simp [intOf]; omega
      · have b1 : (bits .and .u8 (u : Int) 192 == 128) = false := by rw [a192]; simpa using hg
        have b2 : (bits .and .u8 (u : Int) 192 != 128) = true := by rw [bne, b1]; rfl
        have HB : Hid (bad l = true) := Lib.hid (sign_bad2 (j := j + 1) (by have := hz.out; omega) (by omega) (by have := hz.out; unfold lenH; (repeat' split) <;> omega) (by rw [HU.out]; exact hg))
        clear a192 hg a63
        go_wp2
        go_ret2
        exact sgp_bad w HB.out
    · obtain rfl : j = 2 - 1 := by omega
      have hend := sign_end (l := l) (n := 2) (v := a) (by have := hz.out; omega) (by have := hz.out; unfold lenH; (repeat' split) <;> omega) (by decide) (by rw [hl.out, List.length_drop]; have := hxs.out.1; omega) HC.out
        (by rw [HA.out]; congr 1; have e1 := hz.out; have e2 := HV0.out; unfold subH; (repeat' split) <;> omega)
      have hlea : leaH (l.getD 0 0) = 128 := by have := hz.out; unfold leaH; (repeat' split) <;> omega
      rw [hlea] at hend
      have HE := Lib.hid hend
      have HLEA := Lib.hid hlea
      clear hend hlea
      have h5 : ai < 128 ∨ (128 ≤ ai ∧ 1114111 < ai) ∨ (128 ≤ ai ∧ ai ≤ 1114111 ∧ 55296 ≤ ai ∧ ai < 57344) ∨ (128 ≤ ai ∧ ai ≤ 1114111 ∧ ai < 55296) ∨ (128 ≤ ai ∧ ai ≤ 1114111 ∧ 57344 ≤ ai) := by omega
      rcases h5 with q1 | ⟨q1, q2⟩ | ⟨q1, q2, q3, q4⟩ | ⟨q1, q2, q3⟩ | ⟨q1, q2, q3⟩
      all_goals go_wp2
      all_goals go_ret2
      all_goals first
        | exact sgp_bad w (HE.out.2 (by have := HAI.out; omega))
        | (obtain ⟨g1, g2⟩ := HE.out.1 (by have := HAI.out; omega)
           have q := sgp_good w g1 g2
           rw [← HAI.out] at q
           exact q)

set_option maxRecDepth 100000 in
set_option maxHeartbeats 4000000 in
theorem sign_short3 (g o n c k : Nat) (l : List Nat) (z : Int) (w : World) (hk : k < n) (_hn : n ≤ 5000) (hcell : w.cell? ⟨g, o + k, none⟩ = some (.int .u8 z)) (hB : Hid (bad l = true)) (h1 : 224 ≤ z) (h2 : z < 240) (h3 : (n : Int) - k < 3) :
    Calls Tryd.prog 32 #[.slice (some ⟨g, o, none⟩) n c, .int .i64 k] w (SgP l w) := by
  have hadd := add_addr g o k
  go_enter Tryd.func32, Tryd.ntmps32
  go_wp2
  go_ret2
  exact sgp_bad w hB.out
set_option maxRecDepth 100000 in
set_option maxHeartbeats 8000000 in
theorem sign_loop3 (g o n c k : Nat) (xs l : List Nat) (z : Int) (w : World) (hk : k < n) (hn : n ≤ 5000) (hat : Hid (At .u8 w g o xs)) (hxs : Hid (n = xs.length ∧ isB xs)) (hl : Hid (l = xs.drop k)) (hcell : w.cell? ⟨g, o + k, none⟩ = some (.int .u8 z)) (hz : Hid (z = (l.getD 0 0 : Nat))) (h1 : 224 ≤ z) (h2 : z < 240) (h3 : 3 ≤ (n : Int) - k) :
    Calls Tryd.prog 32 #[.slice (some ⟨g, o, none⟩) n c, .int .i64 k] w (SgP l w) := by
  have hadd := add_addr g o k
  obtain ⟨v0, hv0⟩ : ∃ v0 : Nat, (v0 : Int) = z - 224 := ⟨(z - 224).toNat, by omega⟩
  have hv01 : v0 < 32 := by omega
  have HV0 := Lib.hid hv0
  have hvz : z - 224 = v0 := hv0.symm
  clear hv0
  go_enter Tryd.func32, Tryd.ntmps32
  go_wp2
  clear hvz
  go_loop [8, 10] (SgRel v0 3 l) (fun _ s10 => (3 - intOf s10).toNat)
  case atStart => exact ⟨0, v0, by omega, rfl, rfl, rfl, rfl⟩
  case round =>
    obtain ⟨j, a, hj, rfl, rfl, ha, hco⟩ := hrel
    have hab : a < 33554432 := by
      have q := accV_lt v0 (l := l) j
      have q2 : (64 : Nat) ^ j ≤ 64 ^ 3 := Nat.pow_le_pow_right (by decide) (by omega)
      have q3 : (v0 + 1) * 64 ^ j ≤ 32 * 64 ^ 3 := Nat.mul_le_mul (by omega) q2
      rw [ha]
      have q4 : (32 : Nat) * 64 ^ 3 = 8388608 := by decide
      omega
    have HA := Lib.hid ha
    have HC := Lib.hid hco
    clear ha hco
    obtain ⟨ai, hai⟩ : ∃ ai : Int, ai = (a : Int) := ⟨_, rfl⟩
    have HAI := Lib.hid hai
    have ai0 : 0 ≤ ai := by omega
    have ai1 : ai < 33554432 := by omega
    rw [← hai]
    clear hai
    by_cases hlt : j + 1 < 3
    · have hkj : k + (j + 1) < xs.length := by have := hxs.out.1; omega
      have hkn : k + (j + 1) < n := by have := hxs.out.1; omega
      have hc2 := hat.out (k + (j + 1)) hkj
      have hadd2 := add_addr g o (k + (j + 1))
      have htn : ((k : Int) + ((j + 1 : Nat) : Int)).toNat = k + (j + 1) := by omega
      obtain ⟨u, hu⟩ : ∃ u, xs.getD (k + (j + 1)) 0 = u := ⟨_, rfl⟩
      rw [hu] at hc2
      have hub : u < 256 := by rw [← hu]; exact hxs.out.2 _ (getD_mem hkj)
      have hul : l.getD (j + 1) 0 = u := by rw [hl.out, drop_getD, hu]
      have a192 := and192 u hub
      have a63 := and63 u hub
      have HU := Lib.hid hul
      have HUB := Lib.hid hub
      clear hu hul hub
      by_cases hg : u / 64 = 2
      · have b1 : (bits .and .u8 (u : Int) 192 == 128) = true := by rw [a192]; simpa using hg
        have b2 : (bits .and .u8 (u : Int) 192 != 128) = false := by rw [bne, b1]; rfl
        have HG := Lib.hid hg
        obtain ⟨r, hr⟩ : ∃ r : Int, r = ((u % 64 : Nat) : Int) := ⟨_, rfl⟩
        rw [← hr] at a63
        have r0 : 0 ≤ r := by omega
        have r1 : r < 64 := by omega
        have HR := Lib.hid hr
        clear a192 hg hr
        go_wp2
        go_round
        case rel =>
          refine ⟨j + 1, a * 64 + u % 64, by omega, by rw [show ((j + 1 + 1 : Nat) : Int) = (j : Int) + 1 + 1 by omega], ?_, ?_, ?_⟩
          · rw [HAI.out, HR.out]
            congr 1
          · unfold accV
            rw [HU.out, ← HA.out]
          · unfold conts
            rw [HC.out, HU.out]
            simpa using HG.out
        case measure => simp [intOf]; omega
      · have b1 : (bits .and .u8 (u : Int) 192 == 128) = false := by rw [a192]; simpa using hg
        have b2 : (bits .and .u8 (u : Int) 192 != 128) = true := by rw [bne, b1]; rfl
        have HB : Hid (bad l = true) := Lib.hid (sign_bad2 (j := j + 1) (by have := hz.out; omega) (by omega) (by have := hz.out; unfold lenH; (repeat' split) <;> omega) (by rw [HU.out]; exact hg))
        clear a192 hg a63
        go_wp2
        go_ret2
        exact sgp_bad w HB.out
    · obtain rfl : j = 3 - 1 := by omega
      have hend := sign_end (l := l) (n := 3) (v := a) (by have := hz.out; omega) (by have := hz.out; unfold lenH; (repeat' split) <;> omega) (by decide) (by rw [hl.out, List.length_drop]; have := hxs.out.1; omega) HC.out
        (by rw [HA.out]; congr 1; have e1 := hz.out; have e2 := HV0.out; unfold subH; (repeat' split) <;> omega)
      have hlea : leaH (l.getD 0 0) = 2048 := by have := hz.out; unfold leaH; (repeat' split) <;> omega
      rw [hlea] at hend
      have HE := Lib.hid hend
      have HLEA := Lib.hid hlea
      clear hend hlea
      have h5 : ai < 2048 ∨ (2048 ≤ ai ∧ 1114111 < ai) ∨ (2048 ≤ ai ∧ ai ≤ 1114111 ∧ 55296 ≤ ai ∧ ai < 57344) ∨ (2048 ≤ ai ∧ ai ≤ 1114111 ∧ ai < 55296) ∨ (2048 ≤ ai ∧ ai ≤ 1114111 ∧ 57344 ≤ ai) := by omega
      rcases h5 with q1 | ⟨q1, q2⟩ | ⟨q1, q2, q3, q4⟩ | ⟨q1, q2, q3⟩ | ⟨q1, q2, q3⟩
      all_goals go_wp2
      all_goals go_ret2
      all_goals first
        | exact sgp_bad w (HE.out.2 (by have := HAI.out; omega))
        | (obtain ⟨g1, g2⟩ := HE.out.1 (by have := HAI.out; omega)
           have q := sgp_good w g1 g2
           rw [← HAI.out] at q
           exact q)

set_option maxRecDepth 100000 in
set_option maxHeartbeats 4000000 in
theorem sign_short4 (g o n c k : Nat) (l : List Nat) (z : Int) (w : World) (hk : k < n) (_hn : n ≤ 5000) (hcell : w.cell? ⟨g, o + k, none⟩ = some (.int .u8 z)) (hB : Hid (bad l = true)) (h1 : 240 ≤ z) (h2 : z < 248) (h3 : (n : Int) - k < 4) :
    Calls Tryd.prog 32 #[.slice (some ⟨g, o, none⟩) n c, .int .i64 k] w (SgP l w) := by
  have hadd := add_addr g o k
  go_enter Tryd.func32, Tryd.ntmps32
  go_wp2
  go_ret2
  exact sgp_bad w hB.out
set_option maxRecDepth 100000 in
set_option maxHeartbeats 8000000 in
theorem sign_loop4 (g o n c k : Nat) (xs l : List Nat) (z : Int) (w : World) (hk : k < n) (hn : n ≤ 5000) (hat : Hid (At .u8 w g o xs)) (hxs : Hid (n = xs.length ∧ isB xs)) (hl : Hid (l = xs.drop k)) (hcell : w.cell? ⟨g, o + k, none⟩ = some (.int .u8 z)) (hz : Hid (z = (l.getD 0 0 : Nat))) (h1 : 240 ≤ z) (h2 : z < 248) (h3 : 4 ≤ (n : Int) - k) :
    Calls Tryd.prog 32 #[.slice (some ⟨g, o, none⟩) n c, .int .i64 k] w (SgP l w) := by
  have hadd := add_addr g o k
  obtain ⟨v0, hv0⟩ : ∃ v0 : Nat, (v0 : Int) = z - 240 := ⟨(z - 240).toNat, by omega⟩
  have hv01 : v0 < 32 := by omega
  have HV0 := Lib.hid hv0
  have hvz : z - 240 = v0 := hv0.symm
  clear hv0
  go_enter Tryd.func32, Tryd.ntmps32
  go_wp2
  clear hvz
  go_loop [8, 10] (SgRel v0 4 l) (fun _ s10 => (4 - intOf s10).toNat)
  case atStart => exact ⟨0, v0, by omega, rfl, rfl, rfl, rfl⟩
  case round =>
    obtain ⟨j, a, hj, rfl, rfl, ha, hco⟩ := hrel
    have hab : a < 33554432 := by
      have q := accV_lt v0 (l := l) j
      have q2 : (64 : Nat) ^ j ≤ 64 ^ 3 := Nat.pow_le_pow_right (by decide) (by omega)
      have q3 : (v0 + 1) * 64 ^ j ≤ 32 * 64 ^ 3 := Nat.mul_le_mul (by omega) q2
      rw [ha]
      have q4 : (32 : Nat) * 64 ^ 3 = 8388608 := by decide
      omega
    have HA := Lib.hid ha
    have HC := Lib.hid hco
    clear ha hco
    obtain ⟨ai, hai⟩ : ∃ ai : Int, ai = (a : Int) := ⟨_, rfl⟩
    have HAI := Lib.hid hai
    have ai0 : 0 ≤ ai := by omega
    have ai1 : ai < 33554432 := by omega
    rw [← hai]
    clear hai
    by_cases hlt : j + 1 < 4
    · have hkj : k + (j + 1) < xs.length := by have := hxs.out.1; omega
      have hkn : k + (j + 1) < n := by have := hxs.out.1; omega
      have hc2 := hat.out (k + (j + 1)) hkj
      have hadd2 := add_addr g o (k + (j + 1))
      have htn : ((k : Int) + ((j + 1 : Nat) : Int)).toNat = k + (j + 1) := by omega
      obtain ⟨u, hu⟩ : ∃ u, xs.getD (k + (j + 1)) 0 = u := ⟨_, rfl⟩
      rw [hu] at hc2
      have hub : u < 256 := by rw [← hu]; exact hxs.out.2 _ (getD_mem hkj)
      have hul : l.getD (j + 1) 0 = u := by rw [hl.out, drop_getD, hu]
      have a192 := and192 u hub
      have a63 := and63 u hub
      have HU := Lib.hid hul
      have HUB := Lib.hid hub
      clear hu hul hub
      by_cases hg : u / 64 = 2
      · have b1 : (bits .and .u8 (u : Int) 192 == 128) = true := by rw [a192]; simpa using hg
        have b2 : (bits .and .u8 (u : Int) 192 != 128) = false := by rw [bne, b1]; rfl
        have HG := Lib.hid hg
        obtain ⟨r, hr⟩ : ∃ r : Int, r = ((u % 64 : Nat) : Int) := ⟨_, rfl⟩
        rw [← hr] at a63
        have r0 : 0 ≤ r := by omega
        have r1 : r < 64 := by omega
        have HR := Lib.hid hr
        clear a192 hg hr
        go_wp2
        go_round
        case rel =>
          refine ⟨j + 1, a * 64 + u % 64, by omega, by rw [show ((j + 1 + 1 : Nat) : Int) = (j : Int) + 1 + 1 by omega], ?_, ?_, ?_⟩
          · rw [HAI.out, HR.out]
            congr 1
          · unfold accV
            rw [HU.out, ← HA.out]
          · unfold conts
            rw [HC.out, HU.out]
            simpa using HG.out
        case measure => simp [intOf]; omega
      · have b1 : (bits .and .u8 (u : Int) 192 == 128) = false := by rw [a192]; simpa using hg
        have b2 : (bits .and .u8 (u : Int) 192 != 128) = true := by rw [bne, b1]; rfl
        have HB : Hid (bad l = true) := Lib.hid (sign_bad2 (j := j + 1) (by have := hz.out; omega) (by omega) (by have := hz.out; unfold lenH; (repeat' split) <;> omega) (by rw [HU.out]; exact hg))
        clear a192 hg a63
        go_wp2
        go_ret2
        exact sgp_bad w HB.out
    · obtain rfl : j = 4 - 1 := by omega
      have hend := sign_end (l := l) (n := 4) (v := a) (by have := hz.out; omega) (by have := hz.out; unfold lenH; (repeat' split) <;> omega) (by decide) (by rw [hl.out, List.length_drop]; have := hxs.out.1; omega) HC.out
        (by rw [HA.out]; congr 1; have e1 := hz.out; have e2 := HV0.out; unfold subH; (repeat' split) <;> omega)
      have hlea : leaH (l.getD 0 0) = 65536 := by have := hz.out; unfold leaH; (repeat' split) <;> omega
      rw [hlea] at hend
      have HE := Lib.hid hend
      have HLEA := Lib.hid hlea
      clear hend hlea
      have h5 : ai < 65536 ∨ (65536 ≤ ai ∧ 1114111 < ai) ∨ (65536 ≤ ai ∧ ai ≤ 1114111 ∧ 55296 ≤ ai ∧ ai < 57344) ∨ (65536 ≤ ai ∧ ai ≤ 1114111 ∧ ai < 55296) ∨ (65536 ≤ ai ∧ ai ≤ 1114111 ∧ 57344 ≤ ai) := by omega
      rcases h5 with q1 | ⟨q1, q2⟩ | ⟨q1, q2, q3, q4⟩ | ⟨q1, q2, q3⟩ | ⟨q1, q2, q3⟩
      all_goals go_wp2
      all_goals go_ret2
      all_goals first
        | exact sgp_bad w (HE.out.2 (by have := HAI.out; omega))
        | (obtain ⟨g1, g2⟩ := HE.out.1 (by have := HAI.out; omega)
           have q := sgp_good w g1 g2
           rw [← HAI.out] at q
           exact q)

/-- The document's reading of one character. -/
theorem sign_c (A : Option Addr) (xs : List Nat) (n c k : Nat) (w : World) (h : Ar .u8 256 w A xs n c) (hn : n ≤ 5000) (hk : k < n) : Calls Tryd.prog 32 #[.slice A n c, .int .i64 k] w (SgP (xs.drop k) w) := by
  have hlen := h.len
  obtain ⟨g, o, rfl, hg, hat⟩ := h.rd.at_ (j := k) (by omega)
  have hc := hat k (by omega)
  have hl : (xs.drop k).length = n - k := by rw [List.length_drop]; omega
  have hz : ((xs.getD k 0 : Nat) : Int) = ((xs.drop k).getD 0 0 : Nat) := by rw [drop_getD]; rfl
  have hb := h.bd (xs.getD k 0) (getD_mem (by omega))
  by_cases a : xs.getD k 0 < 128
  · exact sign_low g o n c k _ _ w hk hn hc (Lib.hid hz) (by omega) (by omega)
  have a' : 128 ≤ (xs.drop k).getD 0 0 := by omega
  by_cases b : (128 ≤ xs.getD k 0 ∧ xs.getD k 0 < 192) ∨ 248 ≤ xs.getD k 0
  · refine sign_none g o n c k _ _ w hk hn hc (Lib.hid (sign_bad1 a' (.inl ?_))) (by omega)
    unfold lenH
    (repeat' split) <;> omega
  by_cases d2 : 192 ≤ xs.getD k 0 ∧ xs.getD k 0 < 224
  · by_cases e : n - k < 2
    · refine sign_short2 g o n c k _ _ w hk hn hc (Lib.hid (sign_bad1 a' (.inr ?_))) (by omega) (by omega) (by omega)
      rw [hl]
      unfold lenH
      (repeat' split) <;> omega
    · exact sign_loop2 g o n c k xs _ _ w hk hn (Lib.hid hat) (Lib.hid ⟨hlen, h.bd⟩) (Lib.hid rfl) hc (Lib.hid hz) (by omega) (by omega) (by omega)
  by_cases d3 : 224 ≤ xs.getD k 0 ∧ xs.getD k 0 < 240
  · by_cases e : n - k < 3
    · refine sign_short3 g o n c k _ _ w hk hn hc (Lib.hid (sign_bad1 a' (.inr ?_))) (by omega) (by omega) (by omega)
      rw [hl]
      unfold lenH
      (repeat' split) <;> omega
    · exact sign_loop3 g o n c k xs _ _ w hk hn (Lib.hid hat) (Lib.hid ⟨hlen, h.bd⟩) (Lib.hid rfl) hc (Lib.hid hz) (by omega) (by omega) (by omega)
  · by_cases e : n - k < 4
    · refine sign_short4 g o n c k _ _ w hk hn hc (Lib.hid (sign_bad1 a' (.inr ?_))) (by omega) (by omega) (by omega)
      rw [hl]
      unfold lenH
      (repeat' split) <;> omega
    · exact sign_loop4 g o n c k xs _ _ w hk hn (Lib.hid hat) (Lib.hid ⟨hlen, h.bd⟩) (Lib.hid rfl) hc (Lib.hid hz) (by omega) (by omega) (by omega)
end Go.Proofs.YtlbjjkiflcjkgaaDoor
