/- Decimal digits with noughts ahead, as a text's number and key. -/
import Derived.Test.YtlbjjkiflcjkgaaDoorL7w
import Derived.Test.YtlbjjkiflcjkgaaDoorL10w
namespace Go.Proofs.YtlbjjkiflcjkgaaDoor
open Go.RowKit


theorem pu_dd : ∀ (m : Nat), m ≤ 9007199254740991 → ∀ r, Lib.parseUint10 0 (Lib.decDigits m ++ r) = Lib.parseUint10 m r := fun m => by
  induction m using Nat.strongRecOn with
  | _ m ih =>
    intro hm r
    by_cases h : m < 10
    · rw [Lib.decDigits_one h]
      have e : (UInt8.ofNat (48 + m)).toNat = 48 + m := by rw [UInt8.toNat_ofNat']; omega
      show Lib.parseUint10 0 (UInt8.ofNat (48 + m) :: r) = _
      rw [Lib.parseUint10, e, if_pos (by omega), if_neg (by omega), if_neg (by omega)]
      congr 1
      omega
    · rw [Lib.decDigits, dif_neg h, List.append_assoc, ih (m / 10) (by omega) (by omega)]
      have e : (UInt8.ofNat (48 + m % 10)).toNat = 48 + m % 10 := by rw [UInt8.toNat_ofNat']; omega
      show Lib.parseUint10 (m / 10) (UInt8.ofNat (48 + m % 10) :: r) = _
      rw [Lib.parseUint10, e, if_pos (by omega), if_neg (by omega), if_neg (by omega)]
      congr 1
      omega
theorem atoi_dd {m : Nat} (hm : m ≤ 9007199254740991) : Lib.atoiAll (Lib.decDigits m) = .ok (m : Int) := by
  have h := pu_dd m hm []
  rw [List.append_nil] at h
  obtain ⟨c, r, e, h1, h2⟩ := dd_cons m
  rw [e] at h ⊢
  have h3 : Lib.parseMag (c :: r) = .ok m := by
    unfold Lib.parseMag
    rw [if_neg (by simp), h]
    rfl
  unfold Lib.atoiAll
  simp only
  rw [if_neg (by omega), h3]
  simp only
  rw [if_neg (by omega), if_neg (by omega), if_neg (by omega)]
theorem not_name {l : List UInt8} (h : ∀ x ∈ l, 48 ≤ x.toNat ∧ x.toNat ≤ 57) (d : UInt8) (r : List UInt8) (hd : d.toNat < 48 ∨ 57 < d.toNat) : l ≠ d :: r := by
  rintro rfl
  have := h d (by simp)
  omega
theorem par_dd {m : Nat} (hm : m ≤ 9007199254740991) : parS (Lib.decDigits m) = ⟨0, m, true⟩ := by
  unfold parS
  rw [if_neg (not_name (dd_dig m) 78 _ (by decide)), if_neg (not_name (dd_dig m) 73 _ (by decide)), if_neg (not_name (dd_dig m) 45 _ (by decide)), atoi_dd hm]
  simp only
  rw [if_pos (Lib.itoa_nonneg m)]
  unfold ofS
  rw [if_pos (by omega)]
/-- The units of digits behind k noughts. -/
def zn (k m : Nat) : List Nat := List.replicate k 48 ++ (Lib.decDigits m).map UInt8.toNat
theorem zn_lt (k m : Nat) : ∀ x ∈ zn k m, 48 ≤ x ∧ x ≤ 57 := fun x hx => by
  rcases List.mem_append.1 hx with h | h
  · obtain rfl := List.eq_of_mem_replicate h
    omega
  · obtain ⟨y, hy, rfl⟩ := List.mem_map.1 h
    exact dd_dig m y hy
theorem zn_low (k m : Nat) : low (zn k m) = true := by
  unfold low
  rw [List.all_eq_true]
  intro x hx
  have := zn_lt k m x hx
  simp
  omega
theorem zn_U (k m : Nat) : isU (zn k m) := fun x hx => by
  have := zn_lt k m x hx
  omega
theorem zn_u8 (k m : Nat) : (zn k m).map Nat.toUInt8 = List.replicate k 48 ++ Lib.decDigits m := by
  unfold zn
  rw [List.map_append, List.map_replicate, List.map_map]
  congr 1
  have : ∀ l : List UInt8, l.map (Nat.toUInt8 ∘ UInt8.toNat) = l := fun l => by
    induction l with
    | nil => rfl
    | cons x l ih => rw [List.map_cons, ih]; simp
  exact this _
theorem zn_dig (k m : Nat) : ∀ x ∈ List.replicate k (48 : UInt8) ++ Lib.decDigits m, 48 ≤ x.toNat ∧ x.toNat ≤ 57 := fun x hx => by
  rcases List.mem_append.1 hx with h | h
  · obtain rfl := List.eq_of_mem_replicate h
    decide
  · exact dd_dig m x h
theorem dd_ne (m : Nat) : Lib.decDigits m ≠ [] := by
  obtain ⟨c, r, e, _⟩ := dd_cons m
  rw [e]
  simp
theorem num_zn {m : Nat} (k : Nat) (hm : m ≤ 9007199254740991) : numU (zn k m) = ⟨0, m, true⟩ := by
  unfold numU
  rw [if_pos (zn_low k m), zn_u8, num_dig (by intro e; exact dd_ne m (List.append_eq_nil_iff.1 e).2) (zn_dig k m)]
  have e : wzT (List.replicate k 48 ++ Lib.decDigits m) = wzT (Lib.decDigits m) := by
    unfold wzT Lib.trimLeftS
    rw [dw_all _ _ (fun x hx => by obtain rfl := List.eq_of_mem_replicate hx; decide)]
  rw [e, wz_dd, par_dd hm]
theorem pl_zn (k m : Nat) : (plS (zn k m)).data.toList = List.replicate k 48 ++ Lib.decDigits m := by rw [plS_low (zn_low k m), zn_u8]
theorem key_zn0 {m : Nat} (hm : m ≤ 9007199254740991) : KeyR (parS (plS (zn 0 m)).data.toList) (if m ≤ 4294967294 then m else 0) (decide (m ≤ 4294967294)) := by
  rw [pl_zn]
  show KeyR (parS (Lib.decDigits m)) _ _
  rw [par_dd hm]
  by_cases h : m ≤ 4294967294
  · rw [if_pos h]
    exact .inl ⟨⟨rfl, rfl, by show (0 : Int) ≤ m; omega, by show (m : Int) ≤ 4294967294; omega⟩, rfl, by simpa using h⟩
  · rw [if_neg h]
    refine .inr ⟨?_, rfl, by simpa using h⟩
    rintro ⟨_, _, _, q⟩
    have q' : (m : Int) ≤ 4294967294 := q
    omega
theorem key_zn {m : Nat} (k : Nat) : KeyR (parS (plS (zn (k + 1) m)).data.toList) 0 false := by
  rw [pl_zn]
  refine .inr ⟨?_, rfl, rfl⟩
  rintro ⟨h1, h2, h3, _⟩
  obtain ⟨n, hn⟩ : ∃ n, (parS (List.replicate (k + 1) 48 ++ Lib.decDigits m)).n = n := ⟨_, rfl⟩
  have hP : parS (List.replicate (k + 1) 48 ++ Lib.decDigits m) = ⟨0, n, true⟩ := by rw [← hn, ← h1, ← h2]
  have hD := par_key hP rfl (by omega)
  rw [List.replicate_succ, List.cons_append] at hD
  rcases Nat.eq_zero_or_pos n.toNat with e | e
  · rw [e, Lib.decDigits_one (i := 0) (by omega)] at hD
    injection hD with _ q
    exact dd_ne m (List.append_eq_nil_iff.1 q).2
  · obtain ⟨c, r, e2, q⟩ := dd_head n.toNat e
    rw [e2] at hD
    injection hD with q2 _
    exact q (by rw [← q2]; rfl)
theorem zn_len (k m : Nat) : (zn k m).length = k + (zn 0 m).length := by
  unfold zn
  simp
theorem zn_succ (k m : Nat) : zn (k + 1) m = 48 :: zn k m := rfl
theorem nats_dd (m : Nat) : nats ⟨(Lib.decDigits m).toArray⟩ = zn 0 m := rfl
end Go.Proofs.YtlbjjkiflcjkgaaDoor
