/- big: Add, Sub, Mul, Div, Rem, named. -/
import Derived.Test.YtgljfgkkolfnbaaGreatDoorGPz
import Derived.Test.YtgljfgkkolfnbaaGreatDoorGQz
namespace Go.Proofs.YtgljfgkkolfnbaaGreatDoor.Bg
open Go.RowKit

theorem sgn_self (a : Int) : sgn (decide (a < 0)) a.natAbs = a := by
  by_cases h : a < 0
  · simp [h, sgn]; omega
  · simp [h, sgn]; omega
theorem add_c {an bn : Bool} {A C : Option Addr} {xs ys : List Nat} {n c m d : Nat} (w : World) (ha : Arg w A xs n c) (hb : Arg w C ys m d) : Calls Tryz.prog 92 #[.agg #[.bool an, .slice A n c], .agg #[.bool bn, .slice C m d]] w (RetBigOk (bigI an xs + bigI bn ys) w) := by
  refine add_h an bn _ _ A C xs ys _ _ n c m d w (Lib.hid ha) (Lib.hid hb) (Lib.hid ⟨rfl, rfl⟩) (Lib.hid ⟨rfl, rfl⟩) (dig_len_le (bigI_abs ha.lim.1)) (dig_len_le (bigI_abs hb.lim.1)) _ (Lib.hid ?_) (Lib.hid ?_) (Lib.hid ?_)
  · rw [val_dig, val_dig, sgn_self, sgn_self]
  · intro h
    rw [val_dig]
    have := of_decide_eq_true h
    omega
  · intro h
    rw [val_dig]
    have := of_decide_eq_true h
    omega
theorem sgn_mul (a b : Int) : sgn (!decide (a < 0) == decide (b < 0)) (a.natAbs * b.natAbs) = a * b := by
  rcases Int.lt_or_le a 0 with h1 | h1 <;> rcases Int.lt_or_le b 0 with h2 | h2
  · have e1 : decide (a < 0) = true := by simpa using h1
    have e2 : decide (b < 0) = true := by simpa using h2
    rw [e1, e2, show (!(true == true)) = false from rfl]
    show ((a.natAbs * b.natAbs : Nat) : Int) = a * b
    rw [Int.natCast_mul, show ((a.natAbs : Nat) : Int) = -a by omega, show ((b.natAbs : Nat) : Int) = -b by omega, Int.neg_mul_neg]
  · have e1 : decide (a < 0) = true := by simpa using h1
    have e2 : decide (b < 0) = false := by simpa using h2
    rw [e1, e2, show (!(true == false)) = true from rfl]
    show -((a.natAbs * b.natAbs : Nat) : Int) = a * b
    rw [Int.natCast_mul, show ((a.natAbs : Nat) : Int) = -a by omega, show ((b.natAbs : Nat) : Int) = b by omega, Int.neg_mul, Int.neg_neg]
  · have e1 : decide (a < 0) = false := by simpa using h1
    have e2 : decide (b < 0) = true := by simpa using h2
    rw [e1, e2, show (!(false == true)) = true from rfl]
    show -((a.natAbs * b.natAbs : Nat) : Int) = a * b
    rw [Int.natCast_mul, show ((a.natAbs : Nat) : Int) = a by omega, show ((b.natAbs : Nat) : Int) = -b by omega, Int.mul_neg, Int.neg_neg]
  · have e1 : decide (a < 0) = false := by simpa using h1
    have e2 : decide (b < 0) = false := by simpa using h2
    rw [e1, e2, show (!(false == false)) = false from rfl]
    show ((a.natAbs * b.natAbs : Nat) : Int) = a * b
    rw [Int.natCast_mul, show ((a.natAbs : Nat) : Int) = a by omega, show ((b.natAbs : Nat) : Int) = b by omega]
theorem mul_c {an bn : Bool} {A C : Option Addr} {xs ys : List Nat} {n c m d : Nat} (w : World) (ha : Arg w A xs n c) (hb : Arg w C ys m d) : Calls Tryz.prog 94 #[.agg #[.bool an, .slice A n c], .agg #[.bool bn, .slice C m d]] w (RetBigOk (bigI an xs * bigI bn ys) w) := by
  have h := mul_h an bn _ _ A C xs ys _ _ n c m d w (Lib.hid ha) (Lib.hid hb) (Lib.hid ⟨rfl, rfl⟩) (Lib.hid ⟨rfl, rfl⟩) (dig_len_le (bigI_abs ha.lim.1)) (dig_len_le (bigI_abs hb.lim.1))
  rw [val_dig, val_dig, sgn_mul] at h
  exact h
theorem sgn_div (a b : Int) : sgn (!decide (a < 0) == decide (b < 0)) (a.natAbs / b.natAbs) = a.tdiv b := by
  rcases Int.lt_or_le a 0 with h1 | h1 <;> rcases Int.lt_or_le b 0 with h2 | h2
  · have e1 : decide (a < 0) = true := by simpa using h1
    have e2 : decide (b < 0) = true := by simpa using h2
    rw [e1, e2, show (!(true == true)) = false from rfl]
    show ((a.natAbs / b.natAbs : Nat) : Int) = a.tdiv b
    rw [Int.natCast_ediv, show ((a.natAbs : Nat) : Int) = -a by omega, show ((b.natAbs : Nat) : Int) = -b by omega, ← Int.tdiv_eq_ediv_of_nonneg (by omega), Int.neg_tdiv, Int.tdiv_neg, Int.neg_neg]
  · have e1 : decide (a < 0) = true := by simpa using h1
    have e2 : decide (b < 0) = false := by simpa using h2
    rw [e1, e2, show (!(true == false)) = true from rfl]
    show -((a.natAbs / b.natAbs : Nat) : Int) = a.tdiv b
    rw [Int.natCast_ediv, show ((a.natAbs : Nat) : Int) = -a by omega, show ((b.natAbs : Nat) : Int) = b by omega, ← Int.tdiv_eq_ediv_of_nonneg (by omega), Int.neg_tdiv, Int.neg_neg]
  · have e1 : decide (a < 0) = false := by simpa using h1
    have e2 : decide (b < 0) = true := by simpa using h2
    rw [e1, e2, show (!(false == true)) = true from rfl]
    show -((a.natAbs / b.natAbs : Nat) : Int) = a.tdiv b
    rw [Int.natCast_ediv, show ((a.natAbs : Nat) : Int) = a by omega, show ((b.natAbs : Nat) : Int) = -b by omega, ← Int.tdiv_eq_ediv_of_nonneg h1, Int.tdiv_neg, Int.neg_neg]
  · have e1 : decide (a < 0) = false := by simpa using h1
    have e2 : decide (b < 0) = false := by simpa using h2
    rw [e1, e2, show (!(false == false)) = false from rfl]
    show ((a.natAbs / b.natAbs : Nat) : Int) = a.tdiv b
    rw [Int.natCast_ediv, show ((a.natAbs : Nat) : Int) = a by omega, show ((b.natAbs : Nat) : Int) = b by omega, ← Int.tdiv_eq_ediv_of_nonneg h1]
theorem sgn_rem (a b : Int) : sgn (decide (a < 0)) (a.natAbs % b.natAbs) = a.tmod b := by
  rcases Int.lt_or_le a 0 with h1 | h1
  · have e1 : decide (a < 0) = true := by simpa using h1
    rw [e1]
    show -((a.natAbs % b.natAbs : Nat) : Int) = a.tmod b
    have e : a = -((a.natAbs : Nat) : Int) := by omega
    conv => rhs; rw [e]
    rw [Int.neg_tmod, Int.natCast_emod, ← Int.tmod_eq_emod_of_nonneg (Int.natCast_nonneg _)]
    rcases Int.natAbs_eq b with hb | hb
    · rw [← hb]
    · conv => rhs; rw [hb]
      rw [Int.tmod_neg]
  · have e1 : decide (a < 0) = false := by simpa using h1
    rw [e1]
    show ((a.natAbs % b.natAbs : Nat) : Int) = a.tmod b
    have e : a = ((a.natAbs : Nat) : Int) := by omega
    conv => rhs; rw [e]
    rw [Int.natCast_emod, ← Int.tmod_eq_emod_of_nonneg (Int.natCast_nonneg _)]
    rcases Int.natAbs_eq b with hb | hb
    · rw [← hb]
    · conv => rhs; rw [hb]
      rw [Int.tmod_neg]
/-- A number and no error; or, where b is zero, zero and the error 4. -/
theorem div_c {an bn : Bool} {A C : Option Addr} {xs ys : List Nat} {n c m d : Nat} (w : World) (ha : Arg w A xs n c) (hb : Arg w C ys m d) : Calls Tryz.prog 96 #[.agg #[.bool an, .slice A n c], .agg #[.bool bn, .slice C m d]] w (RetBigE ((bigI an xs).tdiv (bigI bn ys)) (bigI bn ys).natAbs w) := by
  have h := div_h an bn _ _ A C xs ys _ _ n c m d w (Lib.hid ha) (Lib.hid hb) (Lib.hid ⟨rfl, rfl⟩) (Lib.hid ⟨rfl, rfl⟩) (dig_len_le (bigI_abs ha.lim.1)) (dig_len_le (bigI_abs hb.lim.1))
  rw [val_dig, val_dig, sgn_div] at h
  exact h
theorem rem_c {an bn : Bool} {A C : Option Addr} {xs ys : List Nat} {n c m d : Nat} (w : World) (ha : Arg w A xs n c) (hb : Arg w C ys m d) : Calls Tryz.prog 97 #[.agg #[.bool an, .slice A n c], .agg #[.bool bn, .slice C m d]] w (RetBigE ((bigI an xs).tmod (bigI bn ys)) (bigI bn ys).natAbs w) := by
  have h := rem_h an bn _ _ A C xs ys _ _ n c m d w (Lib.hid ha) (Lib.hid hb) (Lib.hid ⟨rfl, rfl⟩) (Lib.hid ⟨rfl, rfl⟩) (dig_len_le (bigI_abs ha.lim.1)) (dig_len_le (bigI_abs hb.lim.1))
  rw [val_dig, val_dig, sgn_rem] at h
  exact h
section
variable {pb : Bool} {us : List Nat} {r : Int}
theorem RetBigE.n {s er : Int} {b : Nat} (her : er = if b = 0 then 4 else 0) (hs : r = if b = 0 then 0 else s) (hr : Nm r pb us) {w w' : World} {e : Ending} (h : RetBigE s b w e w') : ∃ (A1 : Option Addr) (c1 : Nat), e = .returned (.tuple #[.agg #[.bool pb, .slice A1 us.length c1], .int .i64 er]) ∧ Arg w' A1 us us.length c1 ∧ Plus w w' := by
  obtain ⟨A1, c1, m, o, rfl, p1, p2, q1, q2, q3, q4⟩ := h
  rw [← hs] at p2
  rw [← her] at p1
  subst p1 p2
  have ha := hr.arg q1 q2 q3
  obtain ⟨rfl, rfl, _⟩ := hr
  exact ⟨A1, c1, rfl, ha, q4⟩
theorem add_n {an bn : Bool} {A C : Option Addr} {xs ys : List Nat} {n c m d : Nat} {a b : Int} (hA : Hid (bigI an xs = a)) (hB : Hid (bigI bn ys = b)) {ok : Bool} (hr : Hid (AddN a b r ok pb us)) (w : World) (ha : Arg w A xs n c) (hb : Arg w C ys m d) : Calls Tryz.prog 92 #[.agg #[.bool an, .slice A n c], .agg #[.bool bn, .slice C m d]] w fun e w' => ∃ (A1 : Option Addr) (c1 : Nat), e = .returned (.tuple #[.agg #[.bool pb, .slice A1 us.length c1], .bool ok]) ∧ Arg w' A1 us us.length c1 ∧ Plus w w' := by
  obtain ⟨h1, h2, h3⟩ := hr.out
  have h := add_c (an := an) (bn := bn) w ha hb
  rw [hA.out, hB.out] at h
  exact h.mono fun _ _ h => h.n h2 h3 h1
theorem mul_n {an bn : Bool} {A C : Option Addr} {xs ys : List Nat} {n c m d : Nat} {a b : Int} (hA : Hid (bigI an xs = a)) (hB : Hid (bigI bn ys = b)) {ok : Bool} (hr : Hid (MulN a b r ok pb us)) (w : World) (ha : Arg w A xs n c) (hb : Arg w C ys m d) : Calls Tryz.prog 94 #[.agg #[.bool an, .slice A n c], .agg #[.bool bn, .slice C m d]] w fun e w' => ∃ (A1 : Option Addr) (c1 : Nat), e = .returned (.tuple #[.agg #[.bool pb, .slice A1 us.length c1], .bool ok]) ∧ Arg w' A1 us us.length c1 ∧ Plus w w' := by
  obtain ⟨h1, h2, h3⟩ := hr.out
  have h := mul_c (an := an) (bn := bn) w ha hb
  rw [hA.out, hB.out] at h
  exact h.mono fun _ _ h => h.n h2 h3 h1
theorem div_n {an bn : Bool} {A C : Option Addr} {xs ys : List Nat} {n c m d : Nat} {a b : Int} (hA : Hid (bigI an xs = a)) (hB : Hid (bigI bn ys = b)) {er : Int} (hr : Hid (DivN a b r er pb us)) (w : World) (ha : Arg w A xs n c) (hb : Arg w C ys m d) : Calls Tryz.prog 96 #[.agg #[.bool an, .slice A n c], .agg #[.bool bn, .slice C m d]] w fun e w' => ∃ (A1 : Option Addr) (c1 : Nat), e = .returned (.tuple #[.agg #[.bool pb, .slice A1 us.length c1], .int .i64 er]) ∧ Arg w' A1 us us.length c1 ∧ Plus w w' := by
  obtain ⟨h1, h2, h3⟩ := hr.out
  have h := div_c (an := an) (bn := bn) w ha hb
  rw [hA.out, hB.out] at h
  exact h.mono fun _ _ h => h.n h2 h3 h1
theorem rem_n {an bn : Bool} {A C : Option Addr} {xs ys : List Nat} {n c m d : Nat} {a b : Int} (hA : Hid (bigI an xs = a)) (hB : Hid (bigI bn ys = b)) {er : Int} (hr : Hid (RemN a b r er pb us)) (w : World) (ha : Arg w A xs n c) (hb : Arg w C ys m d) : Calls Tryz.prog 97 #[.agg #[.bool an, .slice A n c], .agg #[.bool bn, .slice C m d]] w fun e w' => ∃ (A1 : Option Addr) (c1 : Nat), e = .returned (.tuple #[.agg #[.bool pb, .slice A1 us.length c1], .int .i64 er]) ∧ Arg w' A1 us us.length c1 ∧ Plus w w' := by
  obtain ⟨h1, h2, h3⟩ := hr.out
  have h := rem_c (an := an) (bn := bn) w ha hb
  rw [hA.out, hB.out] at h
  exact h.mono fun _ _ h => h.n h2 h3 h1

def SubN (a b r : Int) (ok : Bool) (pb : Bool) (us : List Nat) : Prop := Nm r pb us ∧ ok = decide ((a - b).natAbs < B ^ 8) ∧ r = if (a - b).natAbs < B ^ 8 then a - b else 0
set_option maxRecDepth 100000 in
set_option maxHeartbeats 4000000 in
theorem sub_h {an bn : Bool} {A C : Option Addr} {xs ys : List Nat} {n c m d : Nat} {a b : Int} (hA : Hid (bigI an xs = a)) (hB : Hid (bigI bn ys = b)) {ok nb : Bool} {vs : List Nat} (hr : Hid (AddN a (-b) r ok pb us)) (hn : Hid (NegN b (-b) nb vs)) (hv : Hid (bigI nb vs = -b)) (w : World) (ha : Hid (Arg w A xs n c)) (hb : Hid (Arg w C ys m d)) : Calls Tryz.prog 93 #[.agg #[.bool an, .slice A n c], .agg #[.bool bn, .slice C m d]] w fun e w' => ∃ (A1 : Option Addr) (c1 : Nat), e = .returned (.tuple #[.agg #[.bool pb, .slice A1 us.length c1], .bool ok]) ∧ Arg w' A1 us us.length c1 ∧ Plus w w' := by
  go_enter Tryz.func93, Tryz.ntmps93
  go_upto_region 1 with fail
  go_region_held3 (fun w' => w'.cell? ⟨w.heap.size, 0, none⟩ = some (.bool an) ∧ w'.cell? ⟨w.heap.size, 1, none⟩ = some (.slice A n c) ∧ w'.cell? ⟨w.heap.size + 1, 0, none⟩ = some (.bool bn) ∧ w'.cell? ⟨w.heap.size + 1, 1, none⟩ = some (.slice C m d)) (refine ⟨?_, ?_, ?_, ?_⟩ <;> simp [go_sem]) (first | (go_at_call 73; (with_reducible refine (neg_n hB hn _ (by first | exact hb.out | (have q := hb.out; exact q.plus (by repeat' (first | exact Plus.refl _ | refine Plus.alloc ?_ _ | refine Plus.plus ?_ _ | refine Plus.drew ?_ | refine Plus.drewN ?_ _))))).mono ?_); rintro e w1 ⟨A1, c1, rfl, a1, ⟨x1, rfl⟩⟩; have HN := Lib.hid a1; clear a1) | (go_at_call 92; (with_reducible refine (add_n hA hv hr _ (by first | exact ha.out | (have q := ha.out; exact q.plus (by repeat' (first | exact Plus.refl _ | refine Plus.alloc ?_ _ | refine Plus.plus ?_ _ | refine Plus.drew ?_ | refine Plus.drewN ?_ _)))) (by first | exact HN.out | (have q := HN.out; simp only [plus_drew] at q; exact q))).mono ?_); rintro e w1 ⟨A2, c2, rfl, a2, ⟨x2, rfl⟩⟩; have HR := Lib.hid a2; clear a2))
  all_goals
    go_wp2_with fail
    go_returns
    have q := HR.out
    refine ⟨A2, c2, rfl, ⟨?_, q.len, q.few, q.cap, q.max⟩, ?_⟩
    · have q2 := q.lim
      first | exact q2.res2 | (simp only [plus_drew] at q2; exact q2.res2)
    · repeat' (first | exact Plus.refl _ | refine Plus.alloc ?_ _ | refine Plus.plus ?_ _ | refine Plus.drew ?_ | refine Plus.drewN ?_ _)
theorem sub_n {an bn : Bool} {A C : Option Addr} {xs ys : List Nat} {n c m d : Nat} {a b : Int} (hA : Hid (bigI an xs = a)) (hB : Hid (bigI bn ys = b)) {ok : Bool} (hr : Hid (SubN a b r ok pb us)) (w : World) (ha : Arg w A xs n c) (hb : Arg w C ys m d) : Calls Tryz.prog 93 #[.agg #[.bool an, .slice A n c], .agg #[.bool bn, .slice C m d]] w fun e w' => ∃ (A1 : Option Addr) (c1 : Nat), e = .returned (.tuple #[.agg #[.bool pb, .slice A1 us.length c1], .bool ok]) ∧ Arg w' A1 us us.length c1 ∧ Plus w w' := by
  have hab : (-b).natAbs < B ^ 8 := by rw [Int.natAbs_neg, ← hB.out]; exact bigI_abs hb.lim.1
  have hm := Nm.mk' hab
  have hr' : AddN a (-b) r ok pb us := by
    have h := hr.out
    unfold SubN at h
    rw [Int.sub_eq_add_neg] at h
    exact h
  exact sub_h hA hB (Lib.hid hr') (Lib.hid ⟨hm, rfl⟩) (Lib.hid hm.val) w (Lib.hid ha) (Lib.hid hb)

end
end Go.Proofs.YtgljfgkkolfnbaaGreatDoor.Bg
