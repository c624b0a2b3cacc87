/- Contracts: split, power, cut. -/
import Derived.Deep.OwnRows
import Derived.Test.YthaokkmbghgopaaC8
namespace Go.Proofs.Ythaokkmbghgopaa
open Go.RowKit


theorem two_i {z : Int} {n : Nat} (h : z = n) : Value.int .u32 z = .int .u32 (n : Int) := by rw [h]
theorem Own.two (w : World) (a b : Nat) (t : TypeId) (va vb : Int) (ha : va = a) (hb : vb = b) (h1 : a < B) (h2 : b < B) : Own (w.alloc (.cells #[.int .u32 va, .int .u32 vb] t)) w.heap.size [a, b] := by
  subst ha hb
  refine ⟨okL.cons h1 (okL.cons h2 okL_nil), _, t, heap_alloc_new w _, fun j hj => ?_⟩
  match j, hj with
  | 0, _ => rfl
  | 1, _ => rfl
theorem split_c (v : Nat) (hv : v < B * B) (w : World) : Calls Try.prog 77 #[.int .u64 v] w (NewL 2 v w) := by
  have hlt : (v : Int) ≤ 18446744073709551615 := by have : B * B = 18446744073709551616 := rfl; omega
  go_enter Try.func77, Try.ntmps77
  go_wp2
  go_ret
  have e1 : (v : Int) % 4294967296 = ((v % B : Nat) : Int) := by rw [B_eq]; omega
  have e2 : (v : Int) / 4294967296 = ((v / B : Nat) : Int) := by rw [B_eq]; omega
  refine ⟨w.heap.size, [v % B, v / B], rfl, Nat.le_refl _, Own.two w _ _ _ _ _ e1 e2 (Nat.mod_lt _ B_pos) (by rw [Nat.div_lt_iff_lt_mul B_pos]; exact hv), ?_, Nat.le_refl _, (Below.refl _ _).alloc (Nat.le_refl _) _⟩
  simp only [val, Nat.mul_zero, Nat.add_zero]
  exact Nat.mod_add_div v B

set_option maxHeartbeats 1000000 in
theorem power_c (n : Nat) (hn : n ≤ 1024) (w : World) : Calls Try.prog 74 #[.int .i64 n] w (NewL (n / 32 + 1) (2 ^ n) w) := by
  have hmk := run_make_row' (P := Try.prog) 22 53 (.int .u32 0) 4 Try.underlying22 info53 rfl .i64 .i64 (n / 32 + 1) (by omega) (by omega)
  rw [zeros_cells, show ((n / 32 + 1 : Nat) : Int) = (n : Int) / 32 + 1 by omega] at hmk
  have ei : ((n : Int) / 32).toNat = n / 32 := by omega
  go_enter Try.func74, Try.ntmps74
  go_wp2
  go_ret
  have ep : (2 : Int) ^ (n % 32) % 4294967296 = ((2 ^ (n % 32) : Nat) : Int) := by
    have h2 : 2 ^ (n % 32) < 4294967296 := Nat.pow_lt_pow_right (by decide : 1 < 2) (Nat.mod_lt n (by decide : 0 < 32))
    have e : (2 : Int) ^ (n % 32) = ((2 ^ (n % 32) : Nat) : Int) := by rw [Int.natCast_pow]; rfl
    rw [e]
    exact Int.emod_eq_of_lt (Int.natCast_nonneg _) (Int.ofNat_lt.2 h2)
  have hz : Own (w.alloc (.cells (Array.replicate (n / 32 + 1) (.int .u32 0)) 53)) w.heap.size (List.replicate (n / 32 + 1) 0) := Own.zeros w _ 53 _ rfl
  have hs := hz.set (k := n / 32) (v := 2 ^ (n % 32)) (by simp) (by rw [B_two]; exact Nat.pow_lt_pow_right (by decide) (Nat.mod_lt _ (by decide)))
  rw [World.setCell_alloc_at _ _ _ _ _ rfl, ← ep] at hs
  exact ⟨w.heap.size, _, by simp, Nat.le_refl _, hs, val_power n, by simp, (Below.refl _ _).alloc (Nat.le_refl _) _⟩

/-- A slice of at most L limbs, with the number V; what was there is as it was. -/
def NewS (L V : Nat) (w : World) (e : Ending) (w' : World) : Prop :=
  ∃ (A : Option Addr) (c : Nat) (os : List Nat), e = .returned (.slice A os.length c) ∧ os.length ≤ c ∧ c ≤ 9223372036854775807 ∧ Lim w' A os ∧ val os = V ∧ os.length ≤ L ∧ Below w.heap.size w w'
def u32s (xs : List Nat) : List Value := xs.map fun (x : Nat) => .int .u32 (x : Int)
theorem lim_of_own {w : World} {b : Nat} {v : Value} {os : List Nat} (ho : okL os) (h : w.ownsRow b 53 1 v os.length (u32s os)) : ∃ A c, v = .slice A os.length c ∧ os.length ≤ c ∧ c ≤ 9223372036854775807 ∧ Lim w A os := by
  rcases h.2 with ⟨rfl, h0⟩ | ⟨g, cap, cur, rfl, hb, hg, hl, hm, hs, ht⟩
  · have : os = [] := List.eq_nil_of_length_eq_zero h0
    subst this
    exact ⟨none, 0, rfl, Nat.le_refl _, by omega, Lim.nil⟩
  · refine ⟨some ⟨g, 0, none⟩, cap, rfl, hl, by unfold maxLen at hm; exact hm, ho, fun h0 => ⟨_, rfl, (Array.getElem?_eq_some_iff.1 hg).1, fun j hj => ?_⟩⟩
    rw [zero_add_addr, cell_of_row w g j cur 53 (0, 0) hg]
    have e : cur[j]? = cur.toList[j]? := by simp
    have e2 : (cur.toList.take (os.length * 1))[j]? = cur.toList[j]? := by rw [List.getElem?_take, if_pos (by omega)]
    rw [e, ← e2, ht]
    unfold u32s
    rw [List.getElem?_map, List.getElem?_eq_getElem hj, lim_in hj]
    rfl
theorem news1 (w : World) (u : Value) (t : TypeId) : ∀ j v, [u][j]? = some v → (w.alloc (.cells #[u] t)).cell? ((⟨w.heap.size, 0, none⟩ : Addr).add j) = some v := fun j v h => by
  rw [zero_add_addr, World.cell?_alloc_at _ _ _ _ rfl]
  simpa using h
theorem one_u32 (z : Int) : ∀ u ∈ [Value.int .u32 z], u.oneCell' = true := fun u h => by
  rw [List.mem_singleton] at h
  subst h
  rfl
def CutRel (n : Nat) (xs : List Nat) (w : World) (s5 s12 : Value) (wr : World) : Prop :=
  ∃ (k : Nat) (os : List Nat), k ≤ xs.length ∧ s12 = .int .i64 k ∧ okL os ∧ os.length = k ∧ val os = val xs % 2 ^ (min n (32 * k)) ∧ wr.ownsRow w.heap.size 53 1 s5 os.length (u32s os) ∧ Below w.heap.size w wr
theorem cut_done {xs : List Nat} (h : okL xs) (n k : Nat) (hk : n ≤ 32 * k ∨ k = xs.length) : val xs % 2 ^ (min n (32 * k)) = val xs % 2 ^ n := by
  by_cases hn : n ≤ 32 * k
  · rw [Nat.min_eq_left hn]
  · have hkx : k = xs.length := by omega
    have h1 : val xs < 2 ^ (32 * k) := by rw [← pow_bits, hkx]; exact val_lt h
    have h2 : (2 : Nat) ^ (32 * k) ≤ 2 ^ n := Nat.pow_le_pow_right (by decide) (by omega)
    rw [Nat.min_eq_right (by omega), Nat.mod_eq_of_lt h1, Nat.mod_eq_of_lt (by omega)]
theorem cut_part {xs os : List Nat} (h : okL xs) {n k b : Nat} (hb : b < 32) (hn : n = 32 * k + b) (ho : os.length = k) (hv : val os = val xs % 2 ^ (min n (32 * k))) :
    val (os ++ [lim xs k % 2 ^ b]) = val xs % 2 ^ (min n (32 * (k + 1))) := by
  rw [val_snoc, ho, hv, Nat.min_eq_right (by omega), Nat.min_eq_left (by omega), hn, ← cut_mod h k b hb, ← pow_bits, ← low_mod h]
theorem cut_full {xs os : List Nat} (h : okL xs) {n k : Nat} (hn : 32 * (k + 1) ≤ n) (ho : os.length = k) (hv : val os = val xs % 2 ^ (min n (32 * k))) :
    val (os ++ [lim xs k]) = val xs % 2 ^ (min n (32 * (k + 1))) := by
  rw [val_snoc, ho, hv, Nat.min_eq_right (by omega), Nat.min_eq_right (by omega), ← pow_bits, ← pow_bits, ← low_mod h, ← low_mod h, low_succ]
theorem CutRel.step {n k x : Nat} {xs os : List Nat} {w wr w1 : World} {v v1 : Value} {o : Obj} (hk : k < xs.length) (hl : os.length = k) (ho : okL os) (hx : x < B) (hv : val (os ++ [x]) = val xs % 2 ^ (min n (32 * (k + 1))))
    (h0 : wr.ownsRow w.heap.size 53 1 v os.length (u32s os)) (h1 : w1.ownsRow w.heap.size 53 1 v1 (os.length + 1) (u32s os ++ [.int .u32 (x : Int)])) (hg : (wr.alloc o).grownBy w1 v.ownBlock) (hB : Below w.heap.size w wr) :
    CutRel n xs w v1 (.int .i64 ((k : Int) + 1)) w1 := by
  refine ⟨k + 1, os ++ [x], hk, by rw [show ((k + 1 : Nat) : Int) = (k : Int) + 1 by omega], ho.append (okL.cons hx okL_nil), by simp [hl], hv, ?_, (hB.alloc hB.size o).grown hg (by rw [World.size_alloc]; have := hB.size; omega) (fun j hj => (h0.lt j hj).1)⟩
  have e : (os ++ [x]).length = os.length + 1 := by simp
  have e2 : u32s (os ++ [x]) = u32s os ++ [.int .u32 (x : Int)] := by simp [u32s]
  rw [e, e2]
  exact h1
theorem mask_i {x b : Nat} (hx : x < B) (hb : b < 32) : ∃ p : Int, (2 : Int) ^ b % 4294967296 = p ∧ bits BinOp.and IntKind.u32 (x : Int) (p - 1) = ((x % 2 ^ b : Nat) : Int) ∧ 1 ≤ p ∧ p ≤ 2147483648 := by
  have e : (2 : Int) ^ b = ((2 ^ b : Nat) : Int) := by rw [Int.natCast_pow]; rfl
  have h2 : 2 ^ b ≤ 2147483648 := Nat.pow_le_pow_right (by decide : 0 < 2) (by omega : b ≤ 31)
  have h1 : 1 ≤ 2 ^ b := Nat.one_le_two_pow
  have e2 : ((2 ^ b : Nat) : Int) - 1 = ((2 ^ b - 1 : Nat) : Int) := by omega
  refine ⟨((2 ^ b : Nat) : Int), ?_, ?_, Int.ofNat_le.2 h1, Int.ofNat_le.2 h2⟩
  · rw [e]
    exact Int.emod_eq_of_lt (Int.natCast_nonneg _) (Int.lt_of_le_of_lt (Int.ofNat_le.2 h2) (by decide))
  · rw [e2, u32_and_nat x (2 ^ b - 1) hx (by omega), Nat.and_two_pow_sub_one_eq_mod]

set_option maxRecDepth 100000 in
set_option maxHeartbeats 1000000 in
theorem cut_c (n : Nat) (A : Option Addr) (xs : List Nat) (c : Nat) (w : World) (h : Lim w A xs) (hl : xs.length ≤ 1024) (hn : n ≤ 1024) :
    Calls Try.prog 68 #[.int .i64 n, .slice A xs.length c] w (NewS xs.length (val xs % 2 ^ n) w) := by
  obtain ⟨i0, hi, hz0, hz1, hz2⟩ := info_parts info53
  go_enter Try.func68, Try.ntmps68
  go_wp2
  go_step3
  go_wp2
  go_step3
  go_wp2
  go_loopw [5, 12] (CutRel n xs w) (fun _ s12 _ => ((xs.length : Int) - intOf s12).toNat)
  case atStart => exact ⟨0, [], by omega, rfl, okL_nil, rfl, by simp [val, Nat.mod_one], ⟨rfl, .inr ⟨w.heap.size, 0, #[], rfl, Nat.le_refl _, heap_alloc_new w _, Nat.le_refl _, by unfold maxLen; omega, rfl, rfl⟩⟩, (Below.refl _ _).alloc (Nat.le_refl _) _⟩
  case round =>
    obtain ⟨k, os, hk, rfl, hok, hol, hv, hown, hB⟩ := hrel
    by_cases hlt : k < xs.length
    · obtain ⟨ad, rfl, hxc⟩ := (h.below hB).at_ hlt
      have HW := Lib.hid hown
      have HOL := Lib.hid hol
      have HV := Lib.hid hv
      have HK := Lib.hid hok
      clear hown hol hv hok
      by_cases hle : n ≤ 32 * k
      · have HD := Lib.hid (cut_done h.1 n k (.inl hle))
        have t1 : (n : Int) - (k : Int) * 32 ≤ 0 := by omega
        go_wp2
        go_ret
        obtain ⟨A', c', rfl, q1, q2, q3⟩ := lim_of_own HK.out HW.out
        exact ⟨A', c', os, rfl, q1, q2, q3, by rw [HV.out, HD.out], by rw [HOL.out]; exact hk, hB⟩
      · by_cases hpart : n < 32 * (k + 1)
        · obtain ⟨b, hb⟩ : ∃ b, n = 32 * k + b := ⟨n - 32 * k, by omega⟩
          have hb32 : b < 32 := by omega
          obtain ⟨l, t1⟩ : ∃ l : Int, (n : Int) - (k : Int) * 32 = l := ⟨_, rfl⟩
          have t2 : 0 < l := by omega
          have t3 : l < 32 := by omega
          have t4 : l.toNat = b := by omega
          have T1 := Lib.hid t1
          clear t1
          obtain ⟨p, m1, m2, m3, m4⟩ := mask_i (lim_lt h.1 k) hb32
          have HP := Lib.hid (cut_part h.1 hb32 hb HOL.out HV.out)
          have HB := Lib.hid hb
          clear hb hle hpart
          go_upto_region 6 with (fail)
          rw [T1.out]
          go_wp2_with (at_builtin; refine wpList_append_own _ rfl _ _ 22 rfl w.heap.size 53 i0 (.int .u32 0) 1 4 Try.underlying22 hi hz0 hz1 hz2 rfl (by decide) _ _ _ rfl (HW.out.alloc _) ⟨wr.heap.size, 0, none⟩ 1 1 [.int .u32 ((lim xs k % 2 ^ b : Nat))] rfl rfl (news1 _ _ _) (one_u32 _) (by rw [HOL.out]; unfold maxLen; omega) (by rw [HOL.out]; omega) (by rw [World.size_alloc]; have := hB.size; omega) ?_; intro v1 w1 hown1 hgr1 _; have HW1 := Lib.hid hown1; have HG1 := Lib.hid hgr1; clear hown1 hgr1)
          go_roundw
          case rel => exact CutRel.step hlt HOL.out HK.out (Nat.lt_of_le_of_lt (Nat.mod_le _ _) (lim_lt h.1 k)) HP.out HW.out HW1.out HG1.out hB
          case measure => simp [intOf]; omega
        · obtain ⟨b, hb⟩ : ∃ b : Nat, n = 32 * k + b := ⟨n - 32 * k, by omega⟩
          obtain ⟨l, t1⟩ : ∃ l : Int, (n : Int) - (k : Int) * 32 = l := ⟨_, rfl⟩
          have t2 : 32 ≤ l := by omega
          have T1 := Lib.hid t1
          clear t1
          clear hb
          have HP := Lib.hid (cut_full h.1 (by omega : 32 * (k + 1) ≤ n) HOL.out HV.out)
          clear hle hpart
          go_upto_region 6 with (fail)
          rw [T1.out]
          go_wp2_with (at_builtin; refine wpList_append_own _ rfl _ _ 22 rfl w.heap.size 53 i0 (.int .u32 0) 1 4 Try.underlying22 hi hz0 hz1 hz2 rfl (by decide) _ _ _ rfl (HW.out.alloc _) ⟨wr.heap.size, 0, none⟩ 1 1 [.int .u32 ((lim xs k : Nat))] rfl rfl (news1 _ _ _) (one_u32 _) (by rw [HOL.out]; unfold maxLen; omega) (by rw [HOL.out]; omega) (by rw [World.size_alloc]; have := hB.size; omega) ?_; intro v1 w1 hown1 hgr1 _; have HW1 := Lib.hid hown1; have HG1 := Lib.hid hgr1; clear hown1 hgr1)
          go_roundw
          case rel => exact CutRel.step hlt HOL.out HK.out (lim_lt h.1 k) HP.out HW.out HW1.out HG1.out hB
          case measure => simp [intOf]; omega
    · obtain rfl : k = xs.length := by omega
      have HD := Lib.hid (cut_done h.1 n xs.length (.inr rfl))
      have HW := Lib.hid hown
      have HOL := Lib.hid hol
      have HV := Lib.hid hv
      have HK := Lib.hid hok
      clear hown hol hv hok
      go_wp2
      rw [Exit.noGoto_ret]
      go_ret
      obtain ⟨A', c', rfl, q1, q2, q3⟩ := lim_of_own HK.out HW.out
      exact ⟨A', c', os, rfl, q1, q2, q3, by rw [HV.out, HD.out], by rw [HOL.out]; exact Nat.le_refl _, hB⟩
end Go.Proofs.Ythaokkmbghgopaa
