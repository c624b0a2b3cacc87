/- Digits; renref.Dec. -/
import Derived.IntWalk
import Derived.Test.YtgljfgkkolfnbaaGreatDoorN8z
namespace Go.Proofs.YtgljfgkkolfnbaaGreatDoor
open Go.RowKit

theorem Plus.cell {W w' : World} (h : Plus W w') (n i : Nat) (hn : n < W.heap.size) : w'.cell? ⟨n, i, none⟩ = W.cell? ⟨n, i, none⟩ := h.below.cell (p := ⟨n, i, none⟩) hn
theorem Plus.frozen {W w' : World} (h : Plus W w') (n i : Nat) (hn : n < W.heap.size) : w'.frozen? ⟨n, i, none⟩ = W.frozen? ⟨n, i, none⟩ := h.below.frozen (p := ⟨n, i, none⟩) hn
theorem Plus.size {W w' : World} (h : Plus W w') : W.heap.size ≤ w'.heap.size := h.below.size
theorem Plus.setCell {w w' : World} (h : Plus w w') {p : Addr} (hp : w.heap.size ≤ p.block) (v : Value) : Plus w (w'.setCell p v) := .of_below (h.below.setCell hp v)

theorem dd_dig : ∀ (m : Nat), ∀ x ∈ Lib.decDigits m, 48 ≤ x.toNat ∧ x.toNat ≤ 57 := fun m => by
  induction m using Nat.strongRecOn with
  | _ m ih =>
    intro x hx
    by_cases h : m < 10
    · rw [Lib.decDigits_one h] at hx
      simp only [List.mem_singleton] at hx
      subst hx
      rw [UInt8.toNat_ofNat']
      omega
    · rw [Lib.decDigits, dif_neg h] at hx
      rcases List.mem_append.1 hx with h1 | h1
      · exact ih (m / 10) (by omega) x h1
      · simp only [List.mem_singleton] at h1
        subst h1
        rw [UInt8.toNat_ofNat']
        omega
theorem dd_head : ∀ (m : Nat), 0 < m → ∃ c r, Lib.decDigits m = c :: r ∧ c.toNat ≠ 48 := fun m => by
  induction m using Nat.strongRecOn with
  | _ m ih =>
    intro h0
    by_cases h : m < 10
    · refine ⟨_, _, Lib.decDigits_one h, ?_⟩
      rw [UInt8.toNat_ofNat']
      omega
    · obtain ⟨c, r, e, q⟩ := ih (m / 10) (by omega) (by omega)
      exact ⟨c, r ++ [UInt8.ofNat (48 + m % 10)], by rw [Lib.decDigits, dif_neg h, e]; rfl, q⟩
theorem dd_cons (m : Nat) : ∃ c r, Lib.decDigits m = c :: r ∧ 48 ≤ c.toNat ∧ c.toNat ≤ 57 := by
  rcases Nat.eq_zero_or_pos m with rfl | h
  · exact ⟨48, [], Lib.decDigits_one (by omega), by decide, by decide⟩
  · obtain ⟨c, r, e, _⟩ := dd_head m h
    have := dd_dig m c (by rw [e]; simp)
    exact ⟨c, r, e, this⟩
theorem not_name {l : List UInt8} (h : ∀ x ∈ l, 48 ≤ x.toNat ∧ x.toNat ≤ 57) (d : UInt8) (r : List UInt8) (hd : d.toNat < 48 ∨ 57 < d.toNat) : l ≠ d :: r := by
  rintro rfl
  have := h d (by simp)
  omega
theorem dd_ne (m : Nat) : Lib.decDigits m ≠ [] := by
  obtain ⟨c, r, e, _⟩ := dd_cons m
  rw [e]
  simp
theorem pu_all : ∀ (m : Nat), m ≤ 9223372036854775807 → ∀ r, Lib.parseUint10 0 (Lib.decDigits m ++ r) = Lib.parseUint10 m r := fun m => by
  induction m using Nat.strongRecOn with
  | _ m ih =>
    intro hm r
    by_cases h : m < 10
    · rw [Lib.decDigits_one h]
      have e : (UInt8.ofNat (48 + m)).toNat = 48 + m := by rw [UInt8.toNat_ofNat']; omega
      show Lib.parseUint10 0 (UInt8.ofNat (48 + m) :: r) = _
      rw [Lib.parseUint10, e, if_pos (by omega), if_neg (by omega), if_neg (by omega)]
      congr 1
      omega
    · rw [Lib.decDigits, dif_neg h, List.append_assoc, ih (m / 10) (by omega) (by omega)]
      have e : (UInt8.ofNat (48 + m % 10)).toNat = 48 + m % 10 := by rw [UInt8.toNat_ofNat']; omega
      show Lib.parseUint10 (m / 10) (UInt8.ofNat (48 + m % 10) :: r) = _
      rw [Lib.parseUint10, e, if_pos (by omega), if_neg (by omega), if_neg (by omega)]
      congr 1
      omega
theorem atoi_all {m : Nat} (hm : m ≤ 9223372036854775807) : Lib.atoiAll (Lib.decDigits m) = .ok (m : Int) := by
  have h := pu_all m hm []
  rw [List.append_nil] at h
  obtain ⟨c, r, e, h1, h2⟩ := dd_cons m
  rw [e] at h ⊢
  have h3 : Lib.parseMag (c :: r) = .ok m := by
    unfold Lib.parseMag
    rw [if_neg (by simp), h]
    rfl
  unfold Lib.atoiAll
  simp only
  rw [if_neg (by omega), h3]
  simp only
  rw [if_neg (by omega), if_neg (by omega), if_neg (by omega)]
theorem par_all {m : Nat} (hm : m ≤ 9223372036854775807) : parS (Lib.decDigits m) = if m ≤ 9007199254740991 then ⟨0, m, true⟩ else ofS m := by
  unfold parS
  rw [if_neg (not_name (dd_dig m) 78 _ (by decide)), if_neg (not_name (dd_dig m) 73 _ (by decide)), if_neg (not_name (dd_dig m) 45 _ (by decide)), atoi_all hm]
  simp only
  rw [if_pos (Lib.itoa_nonneg m)]
  split
  · unfold ofS
    rw [if_pos (by omega)]
  · rfl
theorem par_ok {m : Nat} (hm : m ≤ 9223372036854775807) : (parS (Lib.decDigits m)).ok = decide (m ≤ 9007199254740991) ∧ (m ≤ 9007199254740991 → (parS (Lib.decDigits m)).k = 0 ∧ (parS (Lib.decDigits m)).n = m) := by
  rw [par_all hm]
  by_cases h : m ≤ 9007199254740991
  · rw [if_pos h]; exact ⟨(decide_eq_true h).symm, fun _ => ⟨rfl, rfl⟩⟩
  · rw [if_neg h]
    unfold ofS
    rw [if_neg (by omega)]
    exact ⟨(decide_eq_false h).symm, fun q => absurd q h⟩
theorem itoa_neg {v : Int} (h : v < 0) : ∃ r, Lib.itoa v = 45 :: r := by
  unfold Lib.itoa
  rw [if_pos h]
  exact ⟨_, rfl⟩

theorem atoi_itoa {n : Int} (h1 : -9223372036854775808 ≤ n) (h2 : n ≤ 9223372036854775807) : Lib.atoiAll (Lib.itoa n) = .ok n := by
  by_cases h : n < 0
  · obtain ⟨m, hm⟩ : ∃ m : Nat, n = -(m : Int) := ⟨n.natAbs, by omega⟩
    have e : Lib.itoa n = 45 :: Lib.decDigits m := by
      unfold Lib.itoa
      rw [if_pos h, hm]
      simp
    rw [e]
    have hp : Lib.parseMag (Lib.decDigits m) = .ok m := by
      unfold Lib.parseMag
      rw [if_neg (dd_ne m)]
      by_cases q : m ≤ 9223372036854775807
      · have := pu_all m q []
        rw [List.append_nil] at this
        rw [this]
        rfl
      · obtain rfl : m = 9223372036854775808 := by omega
        have e2 : Lib.decDigits 9223372036854775808 = Lib.decDigits 922337203685477580 ++ [UInt8.ofNat (48 + 8)] := by
          rw [Lib.decDigits, dif_neg (by decide)]
        rw [e2, pu_all _ (by decide)]
        show Lib.parseUint10 922337203685477580 (UInt8.ofNat (48 + 8) :: []) = _
        have e3 : (UInt8.ofNat (48 + 8)).toNat = 56 := by decide
        rw [Lib.parseUint10, e3, if_pos (by omega), if_neg (by omega), if_neg (by omega)]
        rfl
    unfold Lib.atoiAll
    simp only
    rw [if_pos (.inr (by decide)), hp]
    simp only
    rw [if_neg (by rintro ⟨q, _⟩; exact q (by decide)), if_neg (by rintro ⟨_, q⟩; omega), if_pos (by decide), hm]
  · obtain ⟨m, hm⟩ : ∃ m : Nat, n = (m : Int) := ⟨n.toNat, by omega⟩
    rw [hm, Lib.itoa_nonneg]
    exact atoi_all (by omega)
theorem itoa_head {n : Int} (c : UInt8) (r : List UInt8) (hc : c ≠ 45) (hd : c.toNat < 48 ∨ 57 < c.toNat) : Lib.itoa n ≠ c :: r := by
  by_cases h : n < 0
  · unfold Lib.itoa
    rw [if_pos h]
    intro e
    injection e with e _
    exact hc e.symm
  · obtain ⟨m, hm⟩ : ∃ m : Nat, n = (m : Int) := ⟨n.toNat, by omega⟩
    rw [hm, Lib.itoa_nonneg]
    exact not_name (dd_dig m) c r hd
theorem itoa_inf {n : Int} : Lib.itoa n ≠ [45, 73, 110, 102, 105, 110, 105, 116, 121] := by
  by_cases h : n < 0
  · unfold Lib.itoa
    rw [if_pos h]
    intro e
    injection e with _ e
    exact not_name (dd_dig _) 73 _ (by decide) e
  · obtain ⟨m, hm⟩ : ∃ m : Nat, n = (m : Int) := ⟨n.toNat, by omega⟩
    rw [hm, Lib.itoa_nonneg]
    exact not_name (dd_dig m) 45 _ (by decide)
theorem par_itoa {n : Int} (h1 : -9223372036854775808 ≤ n) (h2 : n ≤ 9223372036854775807) : parS (Lib.itoa n) = ofS n := by
  unfold parS
  rw [if_neg (itoa_head 78 _ (by decide) (by decide)), if_neg (itoa_head 73 _ (by decide) (by decide)), if_neg itoa_inf, atoi_itoa h1 h2]
  simp
theorem par_txt {p q : Int} (h : IsV p q) : (p = 1 ∧ parS (txtS p q) = ⟨0, 0, true⟩) ∨ (p ≠ 1 ∧ parS (txtS p q) = ⟨p, q, true⟩) := by
  rcases h with ⟨rfl, h1, h2⟩ | ⟨rfl, rfl⟩ | ⟨rfl, rfl⟩ | ⟨rfl, rfl⟩ | ⟨rfl, rfl⟩
  · right
    refine ⟨by decide, ?_⟩
    unfold txtS
    rw [if_neg (by decide), if_neg (by decide), if_neg (by decide), par_itoa (by omega) (by omega)]
    unfold ofS
    rw [if_pos ⟨h1, h2⟩]
  · left
    refine ⟨rfl, ?_⟩
    unfold txtS
    rw [if_neg (by decide), if_neg (by decide), if_neg (by decide), par_itoa (by decide) (by decide)]
    rfl
  · exact .inr ⟨by decide, rfl⟩
  · exact .inr ⟨by decide, rfl⟩
  · exact .inr ⟨by decide, rfl⟩
theorem txt_size {p q : Int} (h : IsV p q) : (⟨(txtS p q).toArray⟩ : ByteArray).size ≤ 1000 := by
  have hd : ∀ (k m : Nat), m < 10 ^ (k + 1) → (Lib.decDigits m).length ≤ k + 1 := by
    intro k
    induction k with
    | zero => intro m h; rw [Lib.decDigits_one (by simpa using h)]; simp
    | succ k ih =>
      intro m h
      by_cases q : m < 10
      · rw [Lib.decDigits_one q]; simp
      · rw [Lib.decDigits, dif_neg q, List.length_append]
        have := ih (m / 10) (by rw [Nat.pow_succ] at h; omega)
        simp
        omega
  have hi : -9007199254740991 ≤ q → q ≤ 9007199254740991 → (Lib.itoa q).length ≤ 100 := fun h1 h2 => by
    unfold Lib.itoa
    split
    · have := hd 19 q.natAbs (by omega)
      simp
      omega
    · have := hd 19 q.toNat (by omega)
      omega
  show (txtS p q).toArray.size ≤ 1000
  simp only [List.size_toArray]
  rcases h with ⟨rfl, h1, h2⟩ | ⟨rfl, rfl⟩ | ⟨rfl, rfl⟩ | ⟨rfl, rfl⟩ | ⟨rfl, rfl⟩
  · have := hi h1 h2
    unfold txtS
    rw [if_neg (by decide), if_neg (by decide), if_neg (by decide)]
    omega
  · have := hi (by decide) (by decide)
    unfold txtS
    rw [if_neg (by decide), if_neg (by decide), if_neg (by decide)]
    omega
  · decide
  · decide
  · decide



theorem conv_cell (d : Nat) (hd : d < 256) (W : World) (g : Nat) (h : W.cell? ⟨g, 0, none⟩ = some (.int .u8 (d : Int))) : (convert 85 9 (.slice (some ⟨g, 0, none⟩) 1 1)).run Tryz.prog W = .ok (.string ⟨#[UInt8.ofNat d]⟩) W := by
  have q := run_convert_bytes_back (P := Tryz.prog) W 85 9 5 ⟨g, 0, none⟩ 1 [UInt8.ofNat d] Tryz.underlying85 Tryz.underlying5 Tryz.underlying9 (fun j hj => by
    have : j = 0 := by simp at hj; exact hj
    subst this
    have e : (UInt8.ofNat d).toNat = d := by rw [UInt8.toNat_ofNat']; omega
    show W.cell? _ = some (.int .u8 (((UInt8.ofNat d).toNat : Nat) : Int))
    rw [e, ← h]
    rfl)
  exact q
theorem conv_one (d : Nat) (hd : d < 256) (v : World) (x : More) : (convert 85 9 (.slice (some ⟨v.heap.size, 0, none⟩) 1 1)).run Tryz.prog (YtgljfgkkolfnbaaGreatDoor.plus (v.alloc (.cells #[.int .u8 (d : Int)] 5)) x) = .ok (.string ⟨#[UInt8.ofNat d]⟩) (YtgljfgkkolfnbaaGreatDoor.plus (v.alloc (.cells #[.int .u8 (d : Int)] 5)) x) :=
  conv_cell d hd _ _ (by rw [Plus.cell (Plus.is x) _ _ (by rw [World.size_alloc]; exact Nat.lt_succ_self _), World.cell?_alloc_at _ _ _ _ rfl]; rfl)
theorem conv_one0 (d : Nat) (hd : d < 256) (v : World) : (convert 85 9 (.slice (some ⟨v.heap.size, 0, none⟩) 1 1)).run Tryz.prog (v.alloc (.cells #[.int .u8 (d : Int)] 5)) = .ok (.string ⟨#[UInt8.ofNat d]⟩) (v.alloc (.cells #[.int .u8 (d : Int)] 5)) :=
  conv_cell d hd _ _ (by rw [World.cell?_alloc_at _ _ _ _ rfl]; rfl)
set_option maxRecDepth 100000 in
set_option maxHeartbeats 4000000 in
theorem dec_small (m : Nat) (hm : m < 10) (w : World) (T : ByteArray) (hT : Hid (T = ⟨#[UInt8.ofNat (48 + m)]⟩)) : Calls Tryz.prog 25 #[.int .i64 m] w fun e w' => e = .returned (.string T) ∧ Plus w w' := by
  have hc := conv_one0 (48 + m) (by omega) w
  rw [show ((48 + m : Nat) : Int) = 48 + (m : Int) by omega, ← hT.out] at hc
  go_enter Tryz.func25, Tryz.ntmps25
  go_wp2
  go_ret
  exact ⟨rfl, (by repeat' (first | exact Plus.refl _ | refine Plus.alloc ?_ _ | refine Plus.plus ?_ _ | refine Plus.drew ?_ | refine Plus.drewN ?_ _))⟩
set_option maxRecDepth 100000 in
set_option maxHeartbeats 2000000 in
theorem dec_big (m p b : Int) (hm : 10 ≤ m) (hm2 : m ≤ 9223372036854775807) (hw1 : IntKind.i64.wrap (m.tdiv 10) = p) (hw2 : IntKind.u8.wrap (IntKind.i64.wrap (48 + m.tmod 10)) = b) (S T U : ByteArray) (hU : Hid (U = S ++ T)) (hS : S.size ≤ 30) (hTs : T.size = 1)
    (hA : Hid (∀ (v : World) x, (convert 85 9 (.slice (some ⟨v.heap.size, 0, none⟩) 1 1)).run Tryz.prog (plus (v.alloc (.cells #[.int .u8 b] 5)) x) = .ok (.string T) (plus (v.alloc (.cells #[.int .u8 b] 5)) x)))
    (hB : Hid (∀ (v : World), (convert 85 9 (.slice (some ⟨v.heap.size, 0, none⟩) 1 1)).run Tryz.prog (v.alloc (.cells #[.int .u8 b] 5)) = .ok (.string T) (v.alloc (.cells #[.int .u8 b] 5))))
    (ih : Hid (∀ w, Calls Tryz.prog 25 #[.int .i64 p] w fun e w' => e = .returned (.string S) ∧ Plus w w')) (w : World) : Calls Tryz.prog 25 #[.int .i64 m] w fun e w' => e = .returned (.string U) ∧ Plus w w' := by
  have hcA : ∀ x, (convert 85 9 (.slice (some ⟨w.heap.size, 0, none⟩) 1 1)).run Tryz.prog (plus (w.alloc (.cells #[.int .u8 b] 5)) x) = .ok (.string T) (plus (w.alloc (.cells #[.int .u8 b] 5)) x) := fun x => hA.out w x
  have hcB : (convert 85 9 (.slice (some ⟨w.heap.size, 0, none⟩) 1 1)).run Tryz.prog (w.alloc (.cells #[.int .u8 b] 5)).drew = .ok (.string T) (w.alloc (.cells #[.int .u8 b] 5)).drew := hB.out w.drew
  have hcC : ∀ x, (convert 85 9 (.slice (some ⟨w.heap.size + x.blocks.length, 0, none⟩) 1 1)).run Tryz.prog ((plus w x).alloc (.cells #[.int .u8 b] 5)) = .ok (.string T) ((plus w x).alloc (.cells #[.int .u8 b] 5)) := fun x => by
    have := hB.out (plus w x)
    rw [size_plus] at this
    exact this
  go_enter Tryz.func25, Tryz.ntmps25
  go_wp2_with fail
  go_region_with (go_at_call 25; (with_reducible refine (ih.out _).mono ?_); rintro e w1 ⟨rfl, ⟨x1, rfl⟩⟩)
  all_goals
    go_wp2_with fail
    go_returns
    exact ⟨by rw [hU.out]; rfl, (by repeat' (first | exact Plus.refl _ | refine Plus.alloc ?_ _ | refine Plus.plus ?_ _ | refine Plus.drew ?_ | refine Plus.drewN ?_ _))⟩
theorem dec_le : ∀ (k m : Nat), m < 10 ^ (k + 1) → (Lib.decDigits m).length ≤ k + 1
  | 0, m, h => by rw [Lib.decDigits_one (by simpa using h)]; simp
  | k + 1, m, h => by
    by_cases q : m < 10
    · rw [Lib.decDigits_one q]; simp
    · rw [Lib.decDigits, dif_neg q, List.length_append]
      have := dec_le k (m / 10) (by rw [Nat.pow_succ] at h; omega)
      simp
      omega
theorem dec_len {m : Nat} (h : m ≤ 9223372036854775807) : (Lib.decDigits m).length ≤ 21 := by
  have := dec_le 19 m (by omega)
  omega
theorem dec_c : ∀ (m : Nat), m ≤ 9223372036854775807 → ∀ w, Calls Tryz.prog 25 #[.int .i64 (m : Int)] w fun e w' => e = .returned (.string ⟨(Lib.decDigits m).toArray⟩) ∧ Plus w w' := fun m => by
  induction m using Nat.strongRecOn with
  | _ m ih =>
    intro hm w
    by_cases h : m < 10
    · rw [Lib.decDigits_one h]
      exact dec_small m h w _ (Lib.hid rfl)
    · refine dec_big (m : Int) ((m / 10 : Nat) : Int) ((48 + m % 10 : Nat) : Int) (by omega) (by omega) ?_ ?_ ⟨(Lib.decDigits (m / 10)).toArray⟩ ⟨#[UInt8.ofNat (48 + m % 10)]⟩ ⟨(Lib.decDigits m).toArray⟩ (Lib.hid ?_) ?_ rfl (Lib.hid (conv_one _ (by omega))) (Lib.hid (conv_one0 _ (by omega))) (Lib.hid (ih (m / 10) (by omega) (by omega))) w
      · rw [show ((m : Int)).tdiv 10 = ((m / 10 : Nat) : Int) from rfl]
        exact IntWalk.i64_in _ (by omega)
      · have e : (m : Int).tmod 10 = ((m % 10 : Nat) : Int) := rfl
        rw [e, show 48 + ((m % 10 : Nat) : Int) = ((48 + m % 10 : Nat) : Int) by omega, IntWalk.i64_in _ (by omega)]
        exact IntWalk.u8_in _ (by omega)
      · rw [Lib.decDigits, dif_neg h]
        apply ByteArray.ext
        rw [ByteArray.data_append]
        simp
      · have := dec_len (m := m / 10) (by omega)
        show (Lib.decDigits (m / 10)).toArray.size ≤ 30
        simp
        omega
set_option maxRecDepth 100000 in
set_option maxHeartbeats 4000000 in
theorem dec_nsmall (n : Int) (h1 : n < 0) (_h2 : -10 < n) (b : Int) (hb : wrap64 (48 - n.tmod 10) % 256 = b) (h0 : n.tdiv 10 = 0) (w : World) (T U : ByteArray) (hU : Hid (U = ⟨#[45]⟩ ++ T)) (hTs : T.size = 1)
    (hB : Hid (∀ (v : World), (convert 85 9 (.slice (some ⟨v.heap.size, 0, none⟩) 1 1)).run Tryz.prog (v.alloc (.cells #[.int .u8 b] 5)) = .ok (.string T) (v.alloc (.cells #[.int .u8 b] 5)))) :
    Calls Tryz.prog 25 #[.int .i64 n] w fun e w' => e = .returned (.string U) ∧ Plus w w' := by
  have hc := hB.out w
  go_enter Tryz.func25, Tryz.ntmps25
  go_wp2
  go_ret
  exact ⟨by rw [hU.out]; rfl, (by repeat' (first | exact Plus.refl _ | refine Plus.alloc ?_ _ | refine Plus.plus ?_ _ | refine Plus.drew ?_ | refine Plus.drewN ?_ _))⟩
set_option maxRecDepth 100000 in
set_option maxHeartbeats 4000000 in
theorem dec_nbig (n p0 p b : Int) (hn : n ≤ -10) (hn2 : -9223372036854775808 ≤ n) (hw0 : IntKind.i64.wrap (n.tdiv 10) = p0) (hp0 : (p0 == 0) = false) (hw1 : IntKind.i64.wrap (-p0) = p) (hw2 : IntKind.u8.wrap (IntKind.i64.wrap (48 - n.tmod 10)) = b) (S T U : ByteArray) (hU : Hid (U = (⟨#[45]⟩ ++ S) ++ T)) (hS : S.size ≤ 30) (hTs : T.size = 1)
    (hA : Hid (∀ (v : World) x, (convert 85 9 (.slice (some ⟨v.heap.size, 0, none⟩) 1 1)).run Tryz.prog (plus (v.alloc (.cells #[.int .u8 b] 5)) x) = .ok (.string T) (plus (v.alloc (.cells #[.int .u8 b] 5)) x)))
    (hB : Hid (∀ (v : World), (convert 85 9 (.slice (some ⟨v.heap.size, 0, none⟩) 1 1)).run Tryz.prog (v.alloc (.cells #[.int .u8 b] 5)) = .ok (.string T) (v.alloc (.cells #[.int .u8 b] 5))))
    (ih : Hid (∀ w, Calls Tryz.prog 25 #[.int .i64 p] w fun e w' => e = .returned (.string S) ∧ Plus w w')) (w : World) : Calls Tryz.prog 25 #[.int .i64 n] w fun e w' => e = .returned (.string U) ∧ Plus w w' := by
  have hcA : ∀ x, (convert 85 9 (.slice (some ⟨w.heap.size, 0, none⟩) 1 1)).run Tryz.prog (plus (w.alloc (.cells #[.int .u8 b] 5)) x) = .ok (.string T) (plus (w.alloc (.cells #[.int .u8 b] 5)) x) := fun x => hA.out w x
  have hcB : (convert 85 9 (.slice (some ⟨w.heap.size, 0, none⟩) 1 1)).run Tryz.prog (w.alloc (.cells #[.int .u8 b] 5)).drew = .ok (.string T) (w.alloc (.cells #[.int .u8 b] 5)).drew := hB.out w.drew
  have hcC : ∀ x, (convert 85 9 (.slice (some ⟨w.heap.size + x.blocks.length, 0, none⟩) 1 1)).run Tryz.prog ((plus w x).alloc (.cells #[.int .u8 b] 5)) = .ok (.string T) ((plus w x).alloc (.cells #[.int .u8 b] 5)) := fun x => by
    have := hB.out (plus w x)
    rw [size_plus] at this
    exact this
  go_enter Tryz.func25, Tryz.ntmps25
  go_wp2_with fail
  go_region_with (go_at_call 25; (with_reducible refine (ih.out _).mono ?_); rintro e w1 ⟨rfl, ⟨x1, rfl⟩⟩)
  all_goals
    go_wp2_with fail
    go_returns
    exact ⟨by rw [hU.out]; rfl, (by repeat' (first | exact Plus.refl _ | refine Plus.alloc ?_ _ | refine Plus.plus ?_ _ | refine Plus.drew ?_ | refine Plus.drewN ?_ _))⟩
/-- A negative number's digits. -/
theorem dec_n (m : Nat) (h0 : 1 ≤ m) (hm : m ≤ 9223372036854775808) (w : World) : Calls Tryz.prog 25 #[.int .i64 (-(m : Int))] w fun e w' => e = .returned (.string ⟨(45 :: Lib.decDigits m).toArray⟩) ∧ Plus w w' := by
  have hneg : (-(m : Int)).tmod 10 = -((m % 10 : Nat) : Int) := by rw [Int.neg_tmod]; rfl
  have hdiv : (-(m : Int)).tdiv 10 = -((m / 10 : Nat) : Int) := by rw [Int.neg_tdiv]; rfl
  by_cases h : m < 10
  · refine dec_nsmall (-(m : Int)) (by omega) (by omega) ((48 + m % 10 : Nat) : Int) ?_ ?_ w ⟨#[UInt8.ofNat (48 + m % 10)]⟩ _ (Lib.hid ?_) rfl (Lib.hid (conv_one0 _ (by omega)))
    · rw [hneg, IntWalk.wrap64_in _ (by omega)]; omega
    · rw [hdiv]; omega
    · rw [Lib.decDigits_one h, Nat.mod_eq_of_lt h]
      apply ByteArray.ext
      rw [ByteArray.data_append]
      simp
  · refine dec_nbig (-(m : Int)) (-((m / 10 : Nat) : Int)) ((m / 10 : Nat) : Int) ((48 + m % 10 : Nat) : Int) (by omega) (by omega) ?_ ?_ ?_ ?_ ⟨(Lib.decDigits (m / 10)).toArray⟩ ⟨#[UInt8.ofNat (48 + m % 10)]⟩ _ (Lib.hid ?_) ?_ rfl (Lib.hid (conv_one _ (by omega))) (Lib.hid (conv_one0 _ (by omega))) (Lib.hid (dec_c (m / 10) (by omega))) w
    · rw [hdiv]; exact IntWalk.i64_in _ (by omega)
    · simp; omega
    · rw [Int.neg_neg]; exact IntWalk.i64_in _ (by omega)
    · rw [hneg, show 48 - -((m % 10 : Nat) : Int) = ((48 + m % 10 : Nat) : Int) by omega, IntWalk.i64_in _ (by omega)]
      exact IntWalk.u8_in _ (by omega)
    · rw [Lib.decDigits, dif_neg h]
      apply ByteArray.ext
      rw [ByteArray.data_append, ByteArray.data_append]
      simp
    · have := dec_len (m := m / 10) (by omega)
      show (Lib.decDigits (m / 10)).toArray.size ≤ 30
      simp
      omega

/-- A number's digits, by the document. -/
theorem rdec_c (n : Int) (h0 : -9223372036854775808 ≤ n) (h1 : n ≤ 9223372036854775807) (w : World) : Calls Tryz.prog 25 #[.int .i64 n] w fun e w' => e = .returned (.string ⟨(Lib.itoa n).toArray⟩) ∧ Plus w w' := by
  by_cases h : n < 0
  · obtain ⟨m, hm⟩ : ∃ m : Nat, n = -(m : Int) := ⟨n.natAbs, by omega⟩
    have e : Lib.itoa n = 45 :: Lib.decDigits m := by
      unfold Lib.itoa
      rw [if_pos h, hm]
      simp
    rw [e, hm]
    exact dec_n m (by omega) (by omega) w
  · obtain ⟨m, hm⟩ : ∃ m : Nat, n = (m : Int) := ⟨n.toNat, by omega⟩
    rw [hm, Lib.itoa_nonneg]
    exact dec_c m (by omega) w
theorem rdec_v {n : Int} {T : ByteArray} (h0 : -9223372036854775808 ≤ n) (h1 : n ≤ 9223372036854775807) (h : Hid ((⟨(Lib.itoa n).toArray⟩ : ByteArray) = T)) (w : World) : Calls Tryz.prog 25 #[.int .i64 n] w fun e w' => e = .returned (.string T) ∧ Plus w w' := by
  have c := rdec_c n h0 h1 w
  rw [h.out] at c
  exact c
end Go.Proofs.YtgljfgkkolfnbaaGreatDoor
