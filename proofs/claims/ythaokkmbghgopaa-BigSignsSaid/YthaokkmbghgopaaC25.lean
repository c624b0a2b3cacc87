/- The contracts with names for what they return. -/
import Derived.Test.YthaokkmbghgopaaC18
import Derived.Test.YthaokkmbghgopaaC24
import Derived.Test.YthaokkmbghgopaaC22
namespace Go.Proofs.Ythaokkmbghgopaa
open Go.RowKit


/-- A number that is short enough: its sign, its limbs. -/
structure Nm (n : Int) (pb : Bool) (us : List Nat) : Prop where
  neg : decide (n < 0) = pb
  mag : dig n.natAbs = us
  abs : n.natAbs < B ^ 8
theorem Nm.val {n : Int} {pb : Bool} {us : List Nat} (h : Nm n pb us) : bigI pb us = n := by
  obtain ⟨rfl, rfl, h3⟩ := h
  exact bigI_dig h3
theorem Nm.mk' {n : Int} (h : n.natAbs < B ^ 8) : Nm n (decide (n < 0)) (dig n.natAbs) := ⟨rfl, rfl, h⟩
theorem Nm.arg {n : Int} {pb : Bool} {us : List Nat} (h : Nm n pb us) {w : World} {A : Option Addr} {c : Nat} (h1 : (dig n.natAbs).length ≤ c) (h2 : c ≤ 9223372036854775807) (h3 : Lim w A (dig n.natAbs)) : Arg w A us us.length c := by
  obtain ⟨rfl, rfl, h4⟩ := h
  exact arg_of h4 h1 h2 h3
def OfN (z r : Int) (pb : Bool) (us : List Nat) : Prop := Nm r pb us ∧ z = r ∧ -9223372036854775808 ≤ r ∧ r ≤ 9223372036854775807
def FwN (z r : Int) (s : Bool) (pb : Bool) (us : List Nat) : Prop := Nm r pb us ∧ ∃ v : Nat, z = v ∧ v < B * B ∧ r = if s = true ∧ 9223372036854775808 ≤ v then (v : Int) - 18446744073709551616 else v
def NegN (a r : Int) (pb : Bool) (us : List Nat) : Prop := Nm r pb us ∧ -a = r
def AddN (a b r : Int) (ok : Bool) (pb : Bool) (us : List Nat) : Prop := Nm r pb us ∧ ok = decide ((a + b).natAbs < B ^ 8) ∧ r = if (a + b).natAbs < B ^ 8 then a + b else 0
def MulN (a b r : Int) (ok : Bool) (pb : Bool) (us : List Nat) : Prop := Nm r pb us ∧ ok = decide ((a * b).natAbs < B ^ 8) ∧ r = if (a * b).natAbs < B ^ 8 then a * b else 0
def DivN (a b r er : Int) (pb : Bool) (us : List Nat) : Prop := Nm r pb us ∧ er = (if b.natAbs = 0 then 4 else 0) ∧ r = if b.natAbs = 0 then 0 else a.tdiv b
def RemN (a b r er : Int) (pb : Bool) (us : List Nat) : Prop := Nm r pb us ∧ er = (if b.natAbs = 0 then 4 else 0) ∧ r = if b.natAbs = 0 then 0 else a.tmod b
def AsUN (z a r er : Int) (pb : Bool) (us : List Nat) : Prop := Nm r pb us ∧ ((0 ≤ z ∧ z ≤ 256 ∧ r = a % 2 ^ z.toNat ∧ er = 0) ∨ ((z < 0 ∨ 256 < z) ∧ r = 0 ∧ er = 1))
def ParN (r er : Int) (s : ByteArray) (pb : Bool) (us : List Nat) : Prop := Nm r pb us ∧ parI s.data.toList = r ∧ parE s.data.toList = er ∧ s.size ≤ 9223372036854775807
section
variable {pb : Bool} {us : List Nat} {r : Int}
theorem RetBig.n (hr : Nm r pb us) {w w' : World} {e : Ending} (h : RetBig r w e w') : ∃ (A1 : Option Addr) (c1 : Nat), e = .returned (.agg #[.bool pb, .slice A1 us.length c1]) ∧ Arg w' A1 us us.length c1 ∧ Plus w w' := by
  obtain ⟨A1, c1, rfl, q1, q2, q3, q4⟩ := h
  have ha := hr.arg q1 q2 q3
  obtain ⟨rfl, rfl, _⟩ := hr
  exact ⟨A1, c1, rfl, ha, q4⟩
theorem RetBigX.n (hr : Nm r pb us) {er : Int} {w w' : World} {e : Ending} (h : RetBigX r er w e w') : ∃ (A1 : Option Addr) (c1 : Nat), e = .returned (.tuple #[.agg #[.bool pb, .slice A1 us.length c1], .int .i64 er]) ∧ Arg w' A1 us us.length c1 ∧ Plus w w' := by
  obtain ⟨A1, c1, rfl, q1, q2, q3, q4⟩ := h
  have ha := hr.arg q1 q2 q3
  obtain ⟨rfl, rfl, _⟩ := hr
  exact ⟨A1, c1, rfl, ha, q4⟩
theorem RetBigOk.n {s : Int} {ok : Bool} (hok : ok = decide (s.natAbs < B ^ 8)) (hs : r = if s.natAbs < B ^ 8 then s else 0) (hr : Nm r pb us) {w w' : World} {e : Ending} (h : RetBigOk s w e w') : ∃ (A1 : Option Addr) (c1 : Nat), e = .returned (.tuple #[.agg #[.bool pb, .slice A1 us.length c1], .bool ok]) ∧ Arg w' A1 us us.length c1 ∧ Plus w w' := by
  obtain ⟨A1, c1, m, o, rfl, p1, p2, q1, q2, q3, q4⟩ := h
  rw [← hs] at p2
  rw [← hok] at p1
  subst p1 p2
  have ha := hr.arg q1 q2 q3
  obtain ⟨rfl, rfl, _⟩ := hr
  exact ⟨A1, c1, rfl, ha, q4⟩
theorem RetBigE.n {s er : Int} {b : Nat} (her : er = if b = 0 then 4 else 0) (hs : r = if b = 0 then 0 else s) (hr : Nm r pb us) {w w' : World} {e : Ending} (h : RetBigE s b w e w') : ∃ (A1 : Option Addr) (c1 : Nat), e = .returned (.tuple #[.agg #[.bool pb, .slice A1 us.length c1], .int .i64 er]) ∧ Arg w' A1 us us.length c1 ∧ Plus w w' := by
  obtain ⟨A1, c1, m, o, rfl, p1, p2, q1, q2, q3, q4⟩ := h
  rw [← hs] at p2
  rw [← her] at p1
  subst p1 p2
  have ha := hr.arg q1 q2 q3
  obtain ⟨rfl, rfl, _⟩ := hr
  exact ⟨A1, c1, rfl, ha, q4⟩
theorem of_n {z : Int} (hr : Hid (OfN z r pb us)) (w : World) : Calls Try.prog 44 #[.int .i64 z] w fun e w' => ∃ (A1 : Option Addr) (c1 : Nat), e = .returned (.agg #[.bool pb, .slice A1 us.length c1]) ∧ Arg w' A1 us us.length c1 ∧ Plus w w' := by
  obtain ⟨h1, rfl, h2, h3⟩ := hr.out
  exact (of_c z h2 h3 w).mono fun _ _ h => h.n h1
theorem fromWord_n {z : Int} {s : Bool} (hr : Hid (FwN z r s pb us)) (w : World) : Calls Try.prog 42 #[.int .u64 z, .bool s] w fun e w' => ∃ (A1 : Option Addr) (c1 : Nat), e = .returned (.agg #[.bool pb, .slice A1 us.length c1]) ∧ Arg w' A1 us us.length c1 ∧ Plus w w' := by
  obtain ⟨h1, v, rfl, h2, rfl⟩ := hr.out
  exact (fromWord_c v s h2 w).mono fun _ _ h => h.n h1
theorem neg_n {an : Bool} {A : Option Addr} {xs : List Nat} {n c : Nat} {a : Int} (hA : Hid (bigI an xs = a)) (hr : Hid (NegN a r pb us)) (w : World) (ha : Arg w A xs n c) : Calls Try.prog 32 #[.agg #[.bool an, .slice A n c]] w fun e w' => ∃ (A1 : Option Addr) (c1 : Nat), e = .returned (.agg #[.bool pb, .slice A1 us.length c1]) ∧ Arg w' A1 us us.length c1 ∧ Plus w w' := by
  obtain ⟨h1, rfl⟩ := hr.out
  have h := neg_c (an := an) w ha
  rw [hA.out] at h
  exact h.mono fun _ _ h => h.n h1
theorem add_n {an bn : Bool} {A C : Option Addr} {xs ys : List Nat} {n c m d : Nat} {a b : Int} (hA : Hid (bigI an xs = a)) (hB : Hid (bigI bn ys = b)) {ok : Bool} (hr : Hid (AddN a b r ok pb us)) (w : World) (ha : Arg w A xs n c) (hb : Arg w C ys m d) : Calls Try.prog 17 #[.agg #[.bool an, .slice A n c], .agg #[.bool bn, .slice C m d]] w fun e w' => ∃ (A1 : Option Addr) (c1 : Nat), e = .returned (.tuple #[.agg #[.bool pb, .slice A1 us.length c1], .bool ok]) ∧ Arg w' A1 us us.length c1 ∧ Plus w w' := by
  obtain ⟨h1, h2, h3⟩ := hr.out
  have h := add_c (an := an) (bn := bn) w ha hb
  rw [hA.out, hB.out] at h
  exact h.mono fun _ _ h => h.n h2 h3 h1
theorem mul_n {an bn : Bool} {A C : Option Addr} {xs ys : List Nat} {n c m d : Nat} {a b : Int} (hA : Hid (bigI an xs = a)) (hB : Hid (bigI bn ys = b)) {ok : Bool} (hr : Hid (MulN a b r ok pb us)) (w : World) (ha : Arg w A xs n c) (hb : Arg w C ys m d) : Calls Try.prog 21 #[.agg #[.bool an, .slice A n c], .agg #[.bool bn, .slice C m d]] w fun e w' => ∃ (A1 : Option Addr) (c1 : Nat), e = .returned (.tuple #[.agg #[.bool pb, .slice A1 us.length c1], .bool ok]) ∧ Arg w' A1 us us.length c1 ∧ Plus w w' := by
  obtain ⟨h1, h2, h3⟩ := hr.out
  have h := mul_c (an := an) (bn := bn) w ha hb
  rw [hA.out, hB.out] at h
  exact h.mono fun _ _ h => h.n h2 h3 h1
theorem div_n {an bn : Bool} {A C : Option Addr} {xs ys : List Nat} {n c m d : Nat} {a b : Int} (hA : Hid (bigI an xs = a)) (hB : Hid (bigI bn ys = b)) {er : Int} (hr : Hid (DivN a b r er pb us)) (w : World) (ha : Arg w A xs n c) (hb : Arg w C ys m d) : Calls Try.prog 24 #[.agg #[.bool an, .slice A n c], .agg #[.bool bn, .slice C m d]] w fun e w' => ∃ (A1 : Option Addr) (c1 : Nat), e = .returned (.tuple #[.agg #[.bool pb, .slice A1 us.length c1], .int .i64 er]) ∧ Arg w' A1 us us.length c1 ∧ Plus w w' := by
  obtain ⟨h1, h2, h3⟩ := hr.out
  have h := div_c (an := an) (bn := bn) w ha hb
  rw [hA.out, hB.out] at h
  exact h.mono fun _ _ h => h.n h2 h3 h1
theorem rem_n {an bn : Bool} {A C : Option Addr} {xs ys : List Nat} {n c m d : Nat} {a b : Int} (hA : Hid (bigI an xs = a)) (hB : Hid (bigI bn ys = b)) {er : Int} (hr : Hid (RemN a b r er pb us)) (w : World) (ha : Arg w A xs n c) (hb : Arg w C ys m d) : Calls Try.prog 26 #[.agg #[.bool an, .slice A n c], .agg #[.bool bn, .slice C m d]] w fun e w' => ∃ (A1 : Option Addr) (c1 : Nat), e = .returned (.tuple #[.agg #[.bool pb, .slice A1 us.length c1], .int .i64 er]) ∧ Arg w' A1 us us.length c1 ∧ Plus w w' := by
  obtain ⟨h1, h2, h3⟩ := hr.out
  have h := rem_c (an := an) (bn := bn) w ha hb
  rw [hA.out, hB.out] at h
  exact h.mono fun _ _ h => h.n h2 h3 h1
theorem same_n {an bn : Bool} {A C : Option Addr} {xs ys : List Nat} {n c m d : Nat} {a b : Int} (hA : Hid (bigI an xs = a)) (hB : Hid (bigI bn ys = b)) {v : Bool} (hr : Hid (decide (a = b) = v)) (w : World) (ha : Arg w A xs n c) (hb : Arg w C ys m d) : Calls Try.prog 30 #[.agg #[.bool an, .slice A n c], .agg #[.bool bn, .slice C m d]] w fun e w' => e = .returned (.bool v) ∧ Plus w w' := by
  have h := same_c (an := an) (bn := bn) w ha hb
  rw [hA.out, hB.out, hr.out] at h
  exact h
theorem cmp_n {an bn : Bool} {A C : Option Addr} {xs ys : List Nat} {n c m d : Nat} {a b : Int} (hA : Hid (bigI an xs = a)) (hB : Hid (bigI bn ys = b)) {v : Int} (hr : Hid (cmpZ a b = v)) (w : World) (ha : Arg w A xs n c) (hb : Arg w C ys m d) : Calls Try.prog 28 #[.agg #[.bool an, .slice A n c], .agg #[.bool bn, .slice C m d]] w fun e w' => e = .returned (.int .i64 v) ∧ Plus w w' := by
  have h := cmp_c (an := an) (bn := bn) w ha hb
  rw [hA.out, hB.out, hr.out] at h
  exact h
theorem asUint_n {an : Bool} {A : Option Addr} {xs : List Nat} {n c : Nat} {a : Int} (hA : Hid (bigI an xs = a)) {z er : Int} (hr : Hid (AsUN z a r er pb us)) (w : World) (ha : Arg w A xs n c) : Calls Try.prog 36 #[.int .i64 z, .agg #[.bool an, .slice A n c]] w fun e w' => ∃ (A1 : Option Addr) (c1 : Nat), e = .returned (.tuple #[.agg #[.bool pb, .slice A1 us.length c1], .int .i64 er]) ∧ Arg w' A1 us us.length c1 ∧ Plus w w' := by
  obtain ⟨h1, ⟨z0, z1, rfl, rfl⟩ | ⟨hz, rfl, rfl⟩⟩ := hr.out
  · have h := asUint_c (an := an) z z.toNat (by omega) (by omega) w ha
    rw [hA.out] at h
    exact h.mono fun _ _ h => h.n h1
  · exact (asUint_no an A n c z hz w).mono fun _ _ h => h.n h1
def asI (z a : Int) : Int := asIntR z.toNat a
theorem asI_zero (a : Int) : asI 0 a = 0 := by
  unfold asI asIntR
  rw [if_pos (.inl rfl)]
  show a % 2 ^ 0 = 0
  rw [Int.pow_zero, Int.emod_one]
def AsIN (z a r er : Int) (pb : Bool) (us : List Nat) : Prop := Nm r pb us ∧ ((0 ≤ z ∧ z ≤ 256 ∧ r = asI z a ∧ er = 0) ∨ ((z < 0 ∨ 256 < z) ∧ r = 0 ∧ er = 1))
theorem asInt_n {an : Bool} {A : Option Addr} {xs : List Nat} {n c : Nat} {a : Int} (hA : Hid (bigI an xs = a)) {z er : Int} (hr : Hid (AsIN z a r er pb us)) (w : World) (ha : Arg w A xs n c) : Calls Try.prog 38 #[.int .i64 z, .agg #[.bool an, .slice A n c]] w fun e w' => ∃ (A1 : Option Addr) (c1 : Nat), e = .returned (.tuple #[.agg #[.bool pb, .slice A1 us.length c1], .int .i64 er]) ∧ Arg w' A1 us us.length c1 ∧ Plus w w' := by
  obtain ⟨h1, ⟨z0, z1, rfl, rfl⟩ | ⟨hz, rfl, rfl⟩⟩ := hr.out
  · by_cases hz : z = 0
    · subst hz
      rw [asI_zero] at h1
      exact (asInt_zero (an := an) w ha).mono fun _ _ h => h.n h1
    · have h := asInt_c (an := an) z z.toNat (by omega) (by omega) (by omega) w ha
      rw [hA.out] at h
      exact h.mono fun _ _ h => h.n h1
  · exact (asInt_no an A n c z hz w).mono fun _ _ h => h.n h1
theorem word_n {an : Bool} {A : Option Addr} {xs : List Nat} {n c : Nat} {a : Int} (hA : Hid (bigI an xs = a)) {v : Int} (hr : Hid ((wordR a : Int) = v)) (w : World) (ha : Arg w A xs n c) : Calls Try.prog 40 #[.agg #[.bool an, .slice A n c]] w fun e w' => e = .returned (.int .u64 v) ∧ Plus w w' := by
  have h := word_c (an := an) w ha
  rw [hA.out, hr.out] at h
  exact h
theorem text_n {an : Bool} {A : Option Addr} {xs : List Nat} {n c : Nat} {a : Int} (hA : Hid (bigI an xs = a)) {T : ByteArray} (hr : Hid ((⟨(txt a).toArray⟩ : ByteArray) = T)) (w : World) (ha : Arg w A xs n c) : Calls Try.prog 48 #[.agg #[.bool an, .slice A n c]] w fun e w' => e = .returned (.string T) ∧ Plus w w' := by
  have h := text_c (an := an) w ha
  rw [hA.out, hr.out] at h
  exact h
theorem parse_n {s : ByteArray} {er : Int} (hr : Hid (ParN r er s pb us)) (w : World) : Calls Try.prog 46 #[.string s] w fun e w' => ∃ (A1 : Option Addr) (c1 : Nat), e = .returned (.tuple #[.agg #[.bool pb, .slice A1 us.length c1], .int .i64 er]) ∧ Arg w' A1 us us.length c1 ∧ Plus w w' := by
  obtain ⟨h1, rfl, rfl, h2⟩ := hr.out
  exact (parse_c s w h2).mono fun _ _ h => h.n h1
theorem may_n {an : Bool} {A : Option Addr} {xs : List Nat} {n c : Nat} {v : Bool} (hr : Hid (mayL an xs = v)) (w : World) (ha : Arg w A xs n c) : Calls Try.prog 34 #[.agg #[.bool an, .slice A n c]] w fun e w' => e = .returned (.bool v) ∧ Plus w w' := by
  have h := may_c an A xs n c w ha.lim ha.len (by have := ha.few; omega)
  rw [hr.out] at h
  exact h
end
end Go.Proofs.Ythaokkmbghgopaa
