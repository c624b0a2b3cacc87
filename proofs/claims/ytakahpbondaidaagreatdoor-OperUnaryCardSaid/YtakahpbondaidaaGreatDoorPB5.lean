/- Unary and Step of any value: ours and the document's. -/
import Derived.Test.YtakahpbondaidaaGreatDoorPB4
import Derived.Test.YtakahpbondaidaaGreatDoorPB3
import Derived.Test.YtakahpbondaidaaGreatDoorPA9
namespace Go.Proofs.YtakahpbondaidaaGreatDoor
open Go.RowKit

theorem isV_b {p q : Int} (h : IsV p q) : -9007199254740991 ≤ q ∧ q ≤ 9007199254740991 := by
  rcases h with ⟨_, h1, h2⟩ | ⟨_, rfl⟩ | ⟨_, rfl⟩ | ⟨_, rfl⟩ | ⟨_, rfl⟩ <;> omega
theorem neg_V (a b : Int) : IsV (negR a b).k (negR a b).n := by
  have h1 := isV_v a b
  unfold negR
  generalize vk a b = p at h1 ⊢
  generalize vn a b = q at h1 ⊢
  have hb := isV_b h1
  unfold negS
  repeat' split
  all_goals first
    | exact .inl ⟨rfl, by decide, by decide⟩
    | exact .inr (.inl ⟨rfl, rfl⟩)
    | exact .inr (.inr (.inl ⟨rfl, rfl⟩))
    | exact .inr (.inr (.inr (.inl ⟨rfl, rfl⟩)))
    | exact .inr (.inr (.inr (.inr ⟨rfl, rfl⟩)))
    | exact .inl ⟨rfl, by show -9007199254740991 ≤ -q; omega, by show -q ≤ 9007199254740991; omega⟩
theorem sg_bd' {z : Int} (h0 : 0 ≤ z) (h1 : z < 4294967296) : -2147483648 ≤ sg z ∧ sg z < 2147483648 := by
  unfold sg
  split <;> omega
theorem div_bd {x y : Int} {k : Nat} (h0 : -y ≤ x) (h1 : x ≤ y) (hy : 0 ≤ y) : -y ≤ x / 2 ^ k ∧ x / 2 ^ k ≤ y := by
  have hp : (0 : Int) < 2 ^ k := Int.pow_pos (by decide)
  have hp1 : (1 : Int) ≤ 2 ^ k := hp
  constructor
  · apply (Int.le_ediv_iff_mul_le hp).2
    have : y * 1 ≤ y * 2 ^ k := Int.mul_le_mul_of_nonneg_left hp1 hy
    have e : -y * 2 ^ k = -(y * 2 ^ k) := Int.neg_mul _ _
    omega
  · apply Int.ediv_le_of_le_mul hp
    have : y * 1 ≤ y * 2 ^ k := Int.mul_le_mul_of_nonneg_left hp1 hy
    omega
theorem bit_V (op a b c d : Int) : IsV (bitR op a b c d).k (bitR op a b c d).n := by
  obtain ⟨x0, x1⟩ := word_bd a b
  obtain ⟨y0, y1⟩ := word_bd c d
  unfold bitR
  split
  · generalize wordR a b = x at x0 x1 ⊢
    generalize wordR c d = y at y0 y1 ⊢
    have key : -9007199254740991 ≤ bitN op x y ∧ bitN op x y ≤ 9007199254740991 := by
      unfold bitN
      split
      · have h := @and_lt x.toNat y.toNat (by omega)
        have := sg_bd' (z := ((x.toNat &&& y.toNat : Nat) : Int)) (by omega) (by omega)
        omega
      split
      · have h := @or_lt x.toNat y.toNat (by omega) (by omega)
        have := sg_bd' (z := ((x.toNat ||| y.toNat : Nat) : Int)) (by omega) (by omega)
        omega
      split
      · have h := @xor_lt x.toNat y.toNat (by omega) (by omega)
        have := sg_bd' (z := ((x.toNat ^^^ y.toNat : Nat) : Int)) (by omega) (by omega)
        omega
      split
      · have := sg_bd' (z := x * 2 ^ (y % 32).toNat % 4294967296) (by omega) (by omega)
        omega
      split
      · have h := sg_bd' x0 x1
        have := div_bd (x := sg x) (y := 2147483648) (k := (y % 32).toNat) (by omega) (by omega) (by omega)
        omega
      · have := div_bd (x := x) (y := 4294967296) (k := (y % 32).toNat) (by omega) (by omega) (by omega)
        omega
    exact .inl ⟨rfl, key.1, key.2⟩
  · exact .inr (.inr (.inl ⟨rfl, rfl⟩))
/-- A value as a number or a BigInt, or with a signal. -/
theorem cls {x : JV} (h : okJ x) : (∃ z, x = .big z ∧ z.natAbs < Bg.B ^ 8) ∨ (∃ a b, numJ x = ⟨a, b, 0⟩ ∧ (∀ z, x ≠ .big z) ∧ IsV a b) ∨ (∃ a b s, numJ x = ⟨a, b, s⟩ ∧ (∀ z, x ≠ .big z) ∧ s ≠ 0 ∧ 0 ≤ s ∧ s ≤ 3) := by
  have hV := numJ_V h
  cases x with
  | big z => exact .inl ⟨z, rfl, h⟩
  | undef => exact .inr (.inl ⟨_, _, rfl, fun _ e => (by cases e), hV⟩)
  | null => exact .inr (.inl ⟨_, _, rfl, fun _ e => (by cases e), hV⟩)
  | bool b => exact .inr (.inl ⟨_, _, rfl, fun _ e => (by cases e), hV⟩)
  | num p q => exact .inr (.inl ⟨_, _, rfl, fun _ e => (by cases e), hV⟩)
  | obj r => exact .inr (.inr ⟨_, _, _, rfl, fun _ e => (by cases e), by decide, by decide, by decide⟩)
  | text us =>
    by_cases ho : (numU us).ok = true
    · have e : numJ (.text us) = ⟨(numU us).k, (numU us).n, 0⟩ := by show nofU us = _; unfold nofU; rw [if_pos ho]
      rw [e] at hV
      exact .inr (.inl ⟨_, _, e, fun _ e => (by cases e), hV⟩)
    · have e : numJ (.text us) = ⟨0, 0, 3⟩ := by show nofU us = _; unfold nofU; rw [if_neg ho]
      exact .inr (.inr ⟨_, _, _, e, fun _ e => (by cases e), by decide, by decide, by decide⟩)
theorem nm_eta (r : Nm) : r = ⟨r.k, r.n⟩ := by cases r; rfl
theorem retF_bool {b : Bool} {w : World} {e : Ending} {w' : World} (h : e = .returned (.tuple #[Value.agg #[.int .i64 2, .int .i64 0, .int .i64 0, .bool false, .slice none 0 0, .slice none 0 0, .int .i64 (bit b)], .int .i64 0]) ∧ Plus w w') : RetF (FJ (.bool b) 0) w e w' :=
  ⟨2, 0, 0, false, none, none, 0, 0, 0, 0, bit b, 0, h.1, ⟨⟨none, none, 0, 0, rfl, by omega, by omega⟩, rfl⟩, h.2⟩
theorem ba_eq {op : ByteArray} {l : List UInt8} (h : op.toList = l) : op = ⟨l.toArray⟩ := by
  rw [toList_data] at h
  subst h
  rfl
theorem is9_nv {V1 V2 : Value} {z : JV} (w : World) (h1 : NV w V1 z) (h2 : NV w V2 z) : Calls Tryz.prog 17 #[V1, V2] w fun e w' => e = .returned (.bool true) ∧ Plus w w' := by
  cases z with
  | undef =>
    obtain ⟨A, C, c, d, rfl, i1, i2⟩ := h1
    obtain ⟨A', C', c', d', rfl, j1, j2⟩ := h2
    exact is9_s (selfB _ _) (selfL []) (selfL []) (by omega) (by omega) w (Lib.hid ⟨Ar.nil _ _ _ _ i1 _, Ar.nil _ _ _ _ i2 _⟩) (Lib.hid ⟨Ar.nil _ _ _ _ j1 _, Ar.nil _ _ _ _ j2 _⟩)
  | null =>
    obtain ⟨A, C, c, d, rfl, i1, i2⟩ := h1
    obtain ⟨A', C', c', d', rfl, j1, j2⟩ := h2
    exact is9_s (selfB _ _) (selfL []) (selfL []) (by omega) (by omega) w (Lib.hid ⟨Ar.nil _ _ _ _ i1 _, Ar.nil _ _ _ _ i2 _⟩) (Lib.hid ⟨Ar.nil _ _ _ _ j1 _, Ar.nil _ _ _ _ j2 _⟩)
  | bool b =>
    obtain ⟨A, C, c, d, rfl, i1, i2⟩ := h1
    obtain ⟨A', C', c', d', rfl, j1, j2⟩ := h2
    exact is9_s (selfB _ _) (selfL []) (selfL []) (by omega) (by omega) w (Lib.hid ⟨Ar.nil _ _ _ _ i1 _, Ar.nil _ _ _ _ i2 _⟩) (Lib.hid ⟨Ar.nil _ _ _ _ j1 _, Ar.nil _ _ _ _ j2 _⟩)
  | num p q =>
    obtain ⟨A, C, c, d, rfl, i1, i2, _⟩ := h1
    obtain ⟨A', C', c', d', rfl, j1, j2, _⟩ := h2
    exact is9_s (selfB _ _) (selfL []) (selfL []) (by omega) (by omega) w (Lib.hid ⟨Ar.nil _ _ _ _ i1 _, Ar.nil _ _ _ _ i2 _⟩) (Lib.hid ⟨Ar.nil _ _ _ _ j1 _, Ar.nil _ _ _ _ j2 _⟩)
  | obj r =>
    obtain ⟨A, C, c, d, rfl, i1, i2, _⟩ := h1
    obtain ⟨A', C', c', d', rfl, j1, j2, _⟩ := h2
    exact is9_s (selfB _ _) (selfL []) (selfL []) (by omega) (by omega) w (Lib.hid ⟨Ar.nil _ _ _ _ i1 _, Ar.nil _ _ _ _ i2 _⟩) (Lib.hid ⟨Ar.nil _ _ _ _ j1 _, Ar.nil _ _ _ _ j2 _⟩)
  | text us =>
    obtain ⟨A, C, c, m, d, rfl, i1, i2, i3⟩ := h1
    obtain ⟨A', C', c', m', d', rfl, j1, j2, j3⟩ := h2
    obtain rfl := i3.len.trans j3.len.symm
    exact is9_s (selfB _ _) (selfL []) (selfL us) (by omega) (by omega) w (Lib.hid ⟨Ar.nil _ _ _ _ i1 _, i3⟩) (Lib.hid ⟨Ar.nil _ _ _ _ j1 _, j3⟩)
  | big y =>
    obtain ⟨g, A, C, xs, n, c, d, rfl, i1, i2, i3, i4⟩ := h1
    obtain ⟨g', A', C', xs', n', c', d', rfl, j1, j2, j3, j4⟩ := h2
    obtain ⟨e1, e2, _⟩ := Bg.may_yes i4.lim.1 i2
    obtain ⟨f1, f2, _⟩ := Bg.may_yes j4.lim.1 j2
    rw [i3] at e1 e2
    rw [j3] at f1 f2
    obtain rfl : xs = xs' := e1.trans f1.symm
    obtain rfl : g = g' := e2.trans f2.symm
    obtain rfl : n = n' := i4.len.trans j4.len.symm
    have hn : n ≤ 1048576 := by have := i4.len; have := i4.few; omega
    exact is9_s (selfB _ _) (selfL xs) (selfL []) hn hn w (Lib.hid ⟨ar_arg i4, Ar.nil _ _ _ _ i1 _⟩) (Lib.hid ⟨ar_arg j4, Ar.nil _ _ _ _ j1 _⟩)
def UnD (op : ByteArray) (U : Value) (w : World) : Prop := ∃ z t, (∀ w1, Plus w w1 → Calls Tryz.prog 33 #[.string op, U] w1 (RetF (FJ z t) w1)) ∧ (∀ w1, Plus w w1 → Calls Tryz.prog 34 #[.string op, U] w1 (RetF (FJ z t) w1))
def StD (U : Value) (y : Int) (w : World) : Prop := ∃ z t, (∀ w1, Plus w w1 → Calls Tryz.prog 35 #[U, .int .i64 y] w1 (RetF (FJ z t) w1)) ∧ (∀ w1, Plus w w1 → Calls Tryz.prog 36 #[U, .int .i64 y] w1 (RetF (FJ z t) w1))
theorem ud_not {k p q : Int} {g : Bool} {A C : Option Addr} {n c m d : Nat} {r : Int} {u : Value} {x : JV} (w : World) (_hL : Lai w) (hn : NV w u x) (hv : Vld w (Value.agg #[.int .i64 k, .int .i64 p, .int .i64 q, .bool g, .slice A n c, .slice C m d, .int .i64 r]) u) (hg : Vldg w (Value.agg #[.int .i64 k, .int .i64 p, .int .i64 q, .bool g, .slice A n c, .slice C m d, .int .i64 r]) u) : UnD ⟨#[33]⟩ (Value.agg #[.int .i64 k, .int .i64 p, .int .i64 q, .bool g, .slice A n c, .slice C m d, .int .i64 r]) w := by
  cases hz : boolJ x
  · exact ⟨.bool true, 0, fun w1 hp => (un_not_f w1 (Lib.hid (hn.plus hp)) (Lib.hid (hv.plus hp)) (Lib.hid hz)).mono fun _ _ h => retF_bool h, fun w1 hp => (un9_not_f w1 (Lib.hid (hn.plus hp)) (Lib.hid (hg.plus hp)) (Lib.hid hz)).mono fun _ _ h => retF_bool h⟩
  · exact ⟨.bool false, 0, fun w1 hp => (un_not_t w1 (Lib.hid (hn.plus hp)) (Lib.hid (hv.plus hp)) (Lib.hid hz)).mono fun _ _ h => retF_bool h, fun w1 hp => (un9_not_t w1 (Lib.hid (hn.plus hp)) (Lib.hid (hg.plus hp)) (Lib.hid hz)).mono fun _ _ h => retF_bool h⟩
theorem ud_void {k p q : Int} {g : Bool} {A C : Option Addr} {n c m d : Nat} {r : Int} (w : World) : UnD ⟨#[118, 111, 105, 100]⟩ (Value.agg #[.int .i64 k, .int .i64 p, .int .i64 q, .bool g, .slice A n c, .slice C m d, .int .i64 r]) w := ⟨.undef, 0, fun w1 _ => (un_void w1).mono fun _ _ h => retF_nil h, fun w1 _ => (un9_void w1).mono fun _ _ h => retF_nil h⟩
theorem ud_pos {k p q : Int} {g : Bool} {A C : Option Addr} {n c m d : Nat} {r : Int} {u : Value} {x : JV} (w : World) (hL : Lai w) (hn : NV w u x) (hv : Vld w (Value.agg #[.int .i64 k, .int .i64 p, .int .i64 q, .bool g, .slice A n c, .slice C m d, .int .i64 r]) u) (hg : Vldg w (Value.agg #[.int .i64 k, .int .i64 p, .int .i64 q, .bool g, .slice A n c, .slice C m d, .int .i64 r]) u) : UnD ⟨#[43]⟩ (Value.agg #[.int .i64 k, .int .i64 p, .int .i64 q, .bool g, .slice A n c, .slice C m d, .int .i64 r]) w := by
  rcases cls hn.ok with ⟨z, rfl, _⟩ | ⟨a, b, hj, _, va⟩ | ⟨a, b, s, hj, _, s0, s1, s2⟩
  · exact ⟨.undef, 1, fun w1 hp => un_pos w1 (FJ.stab _ _) (fun w2 h2 => (onumber_e w2 (Lib.hid (hL.plus (hp.trans h2))) (Lib.hid (hn.plus (hp.trans h2))) (Lib.hid (hv.plus (hp.trans h2))) (Lib.hid rfl) (by decide)).mono fun _ _ h => retF_nil h), fun w1 hp => (un9_pos_e w1 (Lib.hid (hn.plus hp)) (Lib.hid (hg.plus hp)) (Lib.hid rfl) (by decide)).mono fun _ _ h => retF_nil h⟩
  · exact ⟨.num a b, 0, fun w1 hp => un_pos w1 (FJ.stab _ _) (fun w2 h2 => (onumber_y w2 (Lib.hid (hL.plus (hp.trans h2))) (Lib.hid (hn.plus (hp.trans h2))) (Lib.hid (hv.plus (hp.trans h2))) (Lib.hid hj)).mono fun _ _ h => retF_num va h), fun w1 hp => (un9_pos_y w1 (Lib.hid (hn.plus hp)) (Lib.hid (hg.plus hp)) (Lib.hid hj)).mono fun _ _ h => retF_num va h⟩
  · exact ⟨.undef, s, fun w1 hp => un_pos w1 (FJ.stab _ _) (fun w2 h2 => (onumber_e w2 (Lib.hid (hL.plus (hp.trans h2))) (Lib.hid (hn.plus (hp.trans h2))) (Lib.hid (hv.plus (hp.trans h2))) (Lib.hid hj) (by simp [s0])).mono fun _ _ h => retF_nil h), fun w1 hp => (un9_pos_e w1 (Lib.hid (hn.plus hp)) (Lib.hid (hg.plus hp)) (Lib.hid hj) (by simp [s0])).mono fun _ _ h => retF_nil h⟩
theorem ud_neg {k p q : Int} {g : Bool} {A C : Option Addr} {n c m d : Nat} {r : Int} {u : Value} {x : JV} (w : World) (hL : Lai w) (hn : NV w u x) (hv : Vld w (Value.agg #[.int .i64 k, .int .i64 p, .int .i64 q, .bool g, .slice A n c, .slice C m d, .int .i64 r]) u) (hg : Vldg w (Value.agg #[.int .i64 k, .int .i64 p, .int .i64 q, .bool g, .slice A n c, .slice C m d, .int .i64 r]) u) : UnD ⟨#[45]⟩ (Value.agg #[.int .i64 k, .int .i64 p, .int .i64 q, .bool g, .slice A n c, .slice C m d, .int .i64 r]) w := by
  rcases cls hn.ok with ⟨z, rfl, hz⟩ | ⟨a, b, hj, nb, va⟩ | ⟨a, b, s, hj, nb, s0, s1, s2⟩
  · have hN : Bg.Nm (-z) _ _ := Bg.Nm.mk' (by rw [Int.natAbs_neg]; exact hz)
    exact ⟨.big (-z), 0, fun w1 hp => un_neg w1 (FJ.stab _ _) (fun w2 h2 => (oneg_B w2 (Lib.hid (hn.plus (hp.trans h2))) (Lib.hid (hv.plus (hp.trans h2))) (Lib.hid ⟨hN, rfl⟩)).mono fun _ _ h => h.f), fun w1 hp => (un9_neg_B w1 (Lib.hid (hn.plus hp)) (Lib.hid (hg.plus hp)) (Lib.hid ⟨hN, rfl⟩)).mono fun _ _ h => h.f⟩
  · exact ⟨.num (negR a b).k (negR a b).n, 0, fun w1 hp => un_neg w1 (FJ.stab _ _) (fun w2 h2 => (oneg_N w2 (Lib.hid (hL.plus (hp.trans h2))) (Lib.hid (hn.plus (hp.trans h2))) (Lib.hid (hv.plus (hp.trans h2))) (Lib.hid hj) nb (Lib.hid (nm_eta _))).mono fun _ _ h => retF_num (neg_V _ _) h), fun w1 hp => (un9_neg_N w1 (Lib.hid (hn.plus hp)) (Lib.hid (hg.plus hp)) (Lib.hid hj) nb (Lib.hid ⟨rfl, rfl⟩)).mono fun _ _ h => retF_num (neg_V _ _) h⟩
  · exact ⟨.undef, s, fun w1 hp => un_neg w1 (FJ.stab _ _) (fun w2 h2 => (oneg_S w2 (Lib.hid (hL.plus (hp.trans h2))) (Lib.hid (hn.plus (hp.trans h2))) (Lib.hid (hv.plus (hp.trans h2))) (Lib.hid hj) nb (by simp [s0])).mono fun _ _ h => retF_nil h), fun w1 hp => (un9_neg_S w1 (Lib.hid (hn.plus hp)) (Lib.hid (hg.plus hp)) (Lib.hid hj) nb (by simp [s0])).mono fun _ _ h => retF_nil h⟩
theorem ud_inv {k p q : Int} {g : Bool} {A C : Option Addr} {n c m d : Nat} {r : Int} {u : Value} {x : JV} (w : World) (hL : Lai w) (hn : NV w u x) (hv : Vld w (Value.agg #[.int .i64 k, .int .i64 p, .int .i64 q, .bool g, .slice A n c, .slice C m d, .int .i64 r]) u) (hg : Vldg w (Value.agg #[.int .i64 k, .int .i64 p, .int .i64 q, .bool g, .slice A n c, .slice C m d, .int .i64 r]) u) : UnD ⟨#[126]⟩ (Value.agg #[.int .i64 k, .int .i64 p, .int .i64 q, .bool g, .slice A n c, .slice C m d, .int .i64 r]) w := by
  rcases cls hn.ok with ⟨z, rfl, hz⟩ | ⟨a, b, hj, nb, va⟩ | ⟨a, b, s, hj, nb, s0, s1, s2⟩
  · exact ⟨.undef, 3, fun w1 hp => un_inv w1 (FJ.stab _ _) (fun w2 h2 => (oinv_B w2 (Lib.hid (hn.plus (hp.trans h2))) (Lib.hid (hv.plus (hp.trans h2)))).mono fun _ _ h => retF_nil h), fun w1 hp => (un9_inv_B w1 (Lib.hid (hn.plus hp)) (Lib.hid (hg.plus hp))).mono fun _ _ h => retF_nil h⟩
  · exact ⟨.num (bitR 3 a b 0 (-1)).k (bitR 3 a b 0 (-1)).n, 0, fun w1 hp => un_inv w1 (FJ.stab _ _) (fun w2 h2 => (oinv_N w2 (Lib.hid (hL.plus (hp.trans h2))) (Lib.hid (hn.plus (hp.trans h2))) (Lib.hid (hv.plus (hp.trans h2))) (Lib.hid hj) nb (Lib.hid (nm_eta _))).mono fun _ _ h => retF_num (bit_V _ _ _ _ _) h), fun w1 hp => (un9_inv_N w1 (Lib.hid (hn.plus hp)) (Lib.hid (hg.plus hp)) (Lib.hid hj) nb (Lib.hid (nm_eta _))).mono fun _ _ h => retF_num (bit_V _ _ _ _ _) h⟩
  · exact ⟨.undef, s, fun w1 hp => un_inv w1 (FJ.stab _ _) (fun w2 h2 => (oinv_S w2 (Lib.hid (hL.plus (hp.trans h2))) (Lib.hid (hn.plus (hp.trans h2))) (Lib.hid (hv.plus (hp.trans h2))) (Lib.hid hj) nb (by simp [s0])).mono fun _ _ h => retF_nil h), fun w1 hp => (un9_inv_S w1 (Lib.hid (hn.plus hp)) (Lib.hid (hg.plus hp)) (Lib.hid hj) nb (by simp [s0])).mono fun _ _ h => retF_nil h⟩
theorem ud_all (op : ByteArray) {k p q : Int} {g : Bool} {A C : Option Addr} {n c m d : Nat} {r : Int} {u : Value} {x : JV} (w : World) (hL : Lai w) (hn : NV w u x) (hv : Vld w (Value.agg #[.int .i64 k, .int .i64 p, .int .i64 q, .bool g, .slice A n c, .slice C m d, .int .i64 r]) u) (hg : Vldg w (Value.agg #[.int .i64 k, .int .i64 p, .int .i64 q, .bool g, .slice A n c, .slice C m d, .int .i64 r]) u) : UnD op (Value.agg #[.int .i64 k, .int .i64 p, .int .i64 q, .bool g, .slice A n c, .slice C m d, .int .i64 r]) w := by
  cases b0 : (op.toList == [33])
  case true => rw [ba_eq (eq_of_beq b0)]; exact ud_not w hL hn hv hg
  cases b1 : (op.toList == [118, 111, 105, 100])
  case true => rw [ba_eq (eq_of_beq b1)]; exact ud_void w
  cases b2 : (op.toList == [43])
  case true => rw [ba_eq (eq_of_beq b2)]; exact ud_pos w hL hn hv hg
  cases b3 : (op.toList == [45])
  case true => rw [ba_eq (eq_of_beq b3)]; exact ud_neg w hL hn hv hg
  cases b4 : (op.toList == [126])
  case true => rw [ba_eq (eq_of_beq b4)]; exact ud_inv w hL hn hv hg
  exact ⟨.undef, 3, fun w1 _ => (un_none w1 b0 b1 b2 b3 b4).mono fun _ _ h => retF_nil h, fun w1 _ => (un9_none w1 b0 b1 b2 b3 b4).mono fun _ _ h => retF_nil h⟩
theorem sd_p {k p q : Int} {g : Bool} {A C : Option Addr} {n c m d : Nat} {r : Int} {u : Value} {x : JV} (w : World) (hL : Lai w) (hn : NV w u x) (hv : Vld w (Value.agg #[.int .i64 k, .int .i64 p, .int .i64 q, .bool g, .slice A n c, .slice C m d, .int .i64 r]) u) (hg : Vldg w (Value.agg #[.int .i64 k, .int .i64 p, .int .i64 q, .bool g, .slice A n c, .slice C m d, .int .i64 r]) u) : StD (Value.agg #[.int .i64 k, .int .i64 p, .int .i64 q, .bool g, .slice A n c, .slice C m d, .int .i64 r]) 1 w := by
  rcases cls hn.ok with ⟨z, rfl, hz⟩ | ⟨a, b, hj, nb, va⟩ | ⟨a, b, s, hj, nb, s0, s1, s2⟩
  · have hB : (1 : Nat) < Bg.B ^ 8 := by rw [Bg.B_eq]; decide
    have hN1 : Bg.Nm 1 _ _ := Bg.Nm.mk' (n := 1) (by simpa using hB)
    refine ⟨jB (z + 1), tB (z + 1), fun w1 hp => step_Bp w1 (Lib.hid (hn.plus hp)) (Lib.hid (hv.plus hp)) (Lib.hid ⟨hN1, rfl, by decide, by decide⟩) (FJ.stab _ _) (fun g1 g2 A1 A2 xs1 xs2 n1 c1 n2 c2 w2 _ k1 k2 => bigs_add_J w2 k1 k2), fun w1 hp => ?_⟩
    unfold jB tB
    by_cases h : (z + 1).natAbs < Bg.B ^ 8
    · rw [if_pos h, if_pos h]
      exact (st9_pBy w1 (Lib.hid (hn.plus hp)) (Lib.hid (hg.plus hp)) (Lib.hid ⟨hN1, rfl, by decide, by decide⟩) (Lib.hid hN1.val) (Lib.hid ⟨Bg.Nm.mk' h, by simp [h], by rw [if_pos h]⟩)).mono fun _ _ h => h.f
    · rw [if_neg h, if_neg h]
      exact (st9_pBn w1 (Lib.hid (hn.plus hp)) (Lib.hid (hg.plus hp)) (Lib.hid ⟨hN1, rfl, by decide, by decide⟩) (Lib.hid hN1.val) (Lib.hid ⟨nm0, by simp [h], by rw [if_neg h]⟩)).mono fun _ _ h => retF_nil h
  · refine ⟨jA (addR a b 0 1), tA (addR a b 0 1), fun w1 hp => step_Np w1 (Lib.hid (hL.plus hp)) (Lib.hid (hn.plus hp)) (Lib.hid (hv.plus hp)) (Lib.hid hj) nb (FJ.stab _ _) (fun w2 _ => nums_add_J a b 0 1 (add_V _ _ _ _) w2), fun w1 hp => ?_⟩
    have hV := add_V a b 0 1
    obtain ⟨x1, y1, o, h⟩ : ∃ x1 y1 o, addR a b 0 1 = ⟨x1, y1, o⟩ := ⟨_, _, _, rfl⟩
    rw [h] at hV ⊢
    cases o
    · exact (st9_pNn w1 (Lib.hid (hn.plus hp)) (Lib.hid (hg.plus hp)) (Lib.hid hj) nb (Lib.hid h)).mono fun _ _ h => retF_nil h
    · exact (st9_pNy w1 (Lib.hid (hn.plus hp)) (Lib.hid (hg.plus hp)) (Lib.hid hj) nb (Lib.hid h)).mono fun _ _ h => retF_num hV h
  · exact ⟨.undef, s, fun w1 hp => (step_S w1 (Lib.hid (hL.plus hp)) (Lib.hid (hn.plus hp)) (Lib.hid (hv.plus hp)) (Lib.hid hj) nb (by simp [s0])).mono fun _ _ h => retF_nil h, fun w1 hp => (st9_S w1 (Lib.hid (hn.plus hp)) (Lib.hid (hg.plus hp)) (Lib.hid hj) nb (by simp [s0])).mono fun _ _ h => retF_nil h⟩
theorem sd_m {k p q : Int} {g : Bool} {A C : Option Addr} {n c m d : Nat} {r : Int} {u : Value} {x : JV} (w : World) (hL : Lai w) (hn : NV w u x) (hv : Vld w (Value.agg #[.int .i64 k, .int .i64 p, .int .i64 q, .bool g, .slice A n c, .slice C m d, .int .i64 r]) u) (hg : Vldg w (Value.agg #[.int .i64 k, .int .i64 p, .int .i64 q, .bool g, .slice A n c, .slice C m d, .int .i64 r]) u) : StD (Value.agg #[.int .i64 k, .int .i64 p, .int .i64 q, .bool g, .slice A n c, .slice C m d, .int .i64 r]) (-1) w := by
  rcases cls hn.ok with ⟨z, rfl, hz⟩ | ⟨a, b, hj, nb, va⟩ | ⟨a, b, s, hj, nb, s0, s1, s2⟩
  · have hB : (1 : Nat) < Bg.B ^ 8 := by rw [Bg.B_eq]; decide
    have hN1 : Bg.Nm (-1) _ _ := Bg.Nm.mk' (n := (-1)) (by simpa using hB)
    refine ⟨jB (z + (-1)), tB (z + (-1)), fun w1 hp => step_Bm w1 (Lib.hid (hn.plus hp)) (Lib.hid (hv.plus hp)) (Lib.hid ⟨hN1, rfl, by decide, by decide⟩) (FJ.stab _ _) (fun g1 g2 A1 A2 xs1 xs2 n1 c1 n2 c2 w2 _ k1 k2 => bigs_add_J w2 k1 k2), fun w1 hp => ?_⟩
    unfold jB tB
    by_cases h : (z + (-1)).natAbs < Bg.B ^ 8
    · rw [if_pos h, if_pos h]
      exact (st9_mBy w1 (Lib.hid (hn.plus hp)) (Lib.hid (hg.plus hp)) (Lib.hid ⟨hN1, rfl, by decide, by decide⟩) (Lib.hid hN1.val) (Lib.hid ⟨Bg.Nm.mk' h, by simp [h], by rw [if_pos h]⟩)).mono fun _ _ h => h.f
    · rw [if_neg h, if_neg h]
      exact (st9_mBn w1 (Lib.hid (hn.plus hp)) (Lib.hid (hg.plus hp)) (Lib.hid ⟨hN1, rfl, by decide, by decide⟩) (Lib.hid hN1.val) (Lib.hid ⟨nm0, by simp [h], by rw [if_neg h]⟩)).mono fun _ _ h => retF_nil h
  · refine ⟨jA (addR a b 0 (-1)), tA (addR a b 0 (-1)), fun w1 hp => step_Nm w1 (Lib.hid (hL.plus hp)) (Lib.hid (hn.plus hp)) (Lib.hid (hv.plus hp)) (Lib.hid hj) nb (FJ.stab _ _) (fun w2 _ => nums_add_J a b 0 (-1) (add_V _ _ _ _) w2), fun w1 hp => ?_⟩
    have hV := add_V a b 0 (-1)
    obtain ⟨x1, y1, o, h⟩ : ∃ x1 y1 o, addR a b 0 (-1) = ⟨x1, y1, o⟩ := ⟨_, _, _, rfl⟩
    rw [h] at hV ⊢
    cases o
    · exact (st9_mNn w1 (Lib.hid (hn.plus hp)) (Lib.hid (hg.plus hp)) (Lib.hid hj) nb (Lib.hid h)).mono fun _ _ h => retF_nil h
    · exact (st9_mNy w1 (Lib.hid (hn.plus hp)) (Lib.hid (hg.plus hp)) (Lib.hid hj) nb (Lib.hid h)).mono fun _ _ h => retF_num hV h
  · exact ⟨.undef, s, fun w1 hp => (step_S w1 (Lib.hid (hL.plus hp)) (Lib.hid (hn.plus hp)) (Lib.hid (hv.plus hp)) (Lib.hid hj) nb (by simp [s0])).mono fun _ _ h => retF_nil h, fun w1 hp => (st9_S w1 (Lib.hid (hn.plus hp)) (Lib.hid (hg.plus hp)) (Lib.hid hj) nb (by simp [s0])).mono fun _ _ h => retF_nil h⟩
theorem sd_n {k p q : Int} {g : Bool} {A C : Option Addr} {n c m d : Nat} {r : Int} {u : Value} {x : JV} (w : World) (hL : Lai w) (hn : NV w u x) (hv : Vld w (Value.agg #[.int .i64 k, .int .i64 p, .int .i64 q, .bool g, .slice A n c, .slice C m d, .int .i64 r]) u) (hg : Vldg w (Value.agg #[.int .i64 k, .int .i64 p, .int .i64 q, .bool g, .slice A n c, .slice C m d, .int .i64 r]) u) {y : Int} (h1 : (y != 1) = true) (h2' : (y != -1) = true) : StD (Value.agg #[.int .i64 k, .int .i64 p, .int .i64 q, .bool g, .slice A n c, .slice C m d, .int .i64 r]) y w := by
  rcases cls hn.ok with ⟨z, rfl, hz⟩ | ⟨a, b, hj, nb, va⟩ | ⟨a, b, s, hj, nb, s0, s1, s2⟩
  · exact ⟨.undef, 3, fun w1 hp => (step_nB w1 (Lib.hid (hn.plus hp)) (Lib.hid (hv.plus hp)) h1 h2').mono fun _ _ h => retF_nil h, fun w1 hp => (st9_nB w1 (Lib.hid (hn.plus hp)) (Lib.hid (hg.plus hp)) h1 h2').mono fun _ _ h => retF_nil h⟩
  · exact ⟨.undef, 3, fun w1 hp => (step_nN w1 (Lib.hid (hL.plus hp)) (Lib.hid (hn.plus hp)) (Lib.hid (hv.plus hp)) (Lib.hid hj) nb h1 h2').mono fun _ _ h => retF_nil h, fun w1 hp => (st9_nN w1 (Lib.hid (hn.plus hp)) (Lib.hid (hg.plus hp)) (Lib.hid hj) nb h1 h2').mono fun _ _ h => retF_nil h⟩
  · exact ⟨.undef, s, fun w1 hp => (step_S w1 (Lib.hid (hL.plus hp)) (Lib.hid (hn.plus hp)) (Lib.hid (hv.plus hp)) (Lib.hid hj) nb (by simp [s0])).mono fun _ _ h => retF_nil h, fun w1 hp => (st9_S w1 (Lib.hid (hn.plus hp)) (Lib.hid (hg.plus hp)) (Lib.hid hj) nb (by simp [s0])).mono fun _ _ h => retF_nil h⟩
theorem sd_all {k p q : Int} {g : Bool} {A C : Option Addr} {n c m d : Nat} {r : Int} (y : Int) {u : Value} {x : JV} (w : World) (hL : Lai w) (hn : NV w u x) (hv : Vld w (Value.agg #[.int .i64 k, .int .i64 p, .int .i64 q, .bool g, .slice A n c, .slice C m d, .int .i64 r]) u) (hg : Vldg w (Value.agg #[.int .i64 k, .int .i64 p, .int .i64 q, .bool g, .slice A n c, .slice C m d, .int .i64 r]) u) : StD (Value.agg #[.int .i64 k, .int .i64 p, .int .i64 q, .bool g, .slice A n c, .slice C m d, .int .i64 r]) y w := by
  by_cases h1 : y = 1
  · subst h1
    exact sd_p w hL hn hv hg
  · by_cases h2 : y = -1
    · subst h2
      exact sd_m w hL hn hv hg
    · exact sd_n w hL hn hv hg (by simpa using h1) (by simpa using h2)
end Go.Proofs.YtakahpbondaidaaGreatDoor
