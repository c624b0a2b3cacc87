/- The document's BigInts: two together. -/
import Derived.Test.YthaokkmbghgopaaD8
namespace Go.Proofs.Ythaokkmbghgopaa
open Go.RowKit


theorem rplus_n (A C : Option Addr) (xs ys us : List Nat) (n c m d : Nat) (hv : Hid (dig (val xs + val ys) = us)) (w : World) (h : Lim w A xs) (k : Lim w C ys) (hn : n = xs.length) (hm : m = ys.length) (hl : xs.length ≤ 1048576) (kl : ys.length ≤ 1048576) : Calls Try.prog 81 #[.slice A n c, .slice C m d] w fun e w' => ∃ (A1 : Option Addr) (c1 : Nat), e = .returned (.slice A1 us.length c1) ∧ us.length ≤ c1 ∧ c1 ≤ 9223372036854775807 ∧ Lim w' A1 us ∧ Plus w w' := by
  have h := rplus_c A C xs ys n c m d w h k hn hm hl kl
  obtain rfl := hv.out
  exact h.mono fun _ _ ⟨A1, c1, h1, h2, h3, h4, h5, _⟩ => ⟨A1, c1, h1, h2, h3, h4, h5⟩
theorem rminus_n (A C : Option Addr) (xs ys us : List Nat) (n c m d : Nat) (hv : Hid (dig (val xs - val ys) = us)) (hle : Hid (val ys ≤ val xs)) (w : World) (h : Lim w A xs) (k : Lim w C ys) (hn : n = xs.length) (hm : m = ys.length) (hl : xs.length ≤ 1048576) (_kl : ys.length ≤ 1048576) : Calls Try.prog 73 #[.slice A n c, .slice C m d] w fun e w' => ∃ (A1 : Option Addr) (c1 : Nat), e = .returned (.slice A1 us.length c1) ∧ us.length ≤ c1 ∧ c1 ≤ 9223372036854775807 ∧ Lim w' A1 us ∧ Plus w w' := by
  have h := rminus_c A C xs ys n c m d w h k hn hm hl hle.out
  obtain rfl := hv.out
  exact h.mono fun _ _ ⟨A1, c1, h1, h2, h3, h4, h5, _⟩ => ⟨A1, c1, h1, h2, h3, h4, h5⟩
theorem rcmp_n (A C : Option Addr) (xs ys : List Nat) (n c m d : Nat) {v : Int} (hv : Hid (cmpI (val xs) (val ys) = v)) (w : World) (h : Lim w A xs) (k : Lim w C ys) (hn : n = xs.length) (hm : m = ys.length) (hl : xs.length ≤ 1048576) (kl : ys.length ≤ 1048576) : Calls Try.prog 67 #[.slice A n c, .slice C m d] w fun e w' => e = .returned (.int .i64 v) ∧ w = w' := by
  have h := rcmp_c A C xs ys n c m d w h k hn hm hl kl
  rw [hv.out] at h
  exact h
theorem rmade_n (p pb : Bool) (A : Option Addr) (us vs : List Nat) (n c : Nat) (R : Int) (h1 : Hid (sgn p (val us) = R)) (h2 : Hid (decide (R < 0) = pb ∧ dig R.natAbs = vs)) (w : World) (h : Lim w A us) (hn : n = us.length) (hl : us.length ≤ c) (hc : c ≤ 9223372036854775807) (hs : us.length ≤ 2097152) :
    Calls Try.prog 62 #[.bool p, .slice A n c] w fun e w' => ∃ (A1 : Option Addr) (c1 : Nat), e = .returned (.agg #[.bool pb, .slice A1 vs.length c1]) ∧ vs.length ≤ c1 ∧ c1 ≤ 9223372036854775807 ∧ Lim w' A1 vs ∧ Plus w w' := by
  have h := rmade_c p A us n c w h hn hl hc hs
  rw [h1.out] at h
  obtain ⟨rfl, rfl⟩ := h2.out
  exact h

set_option maxRecDepth 100000 in
set_option maxHeartbeats 4000000 in
theorem rsum_et (pb : Bool) (A C : Option Addr) (xs ys us : List Nat) (n c m d : Nat) (vs : List Nat) (R : Int) (hv : Hid (dig (val xs + val ys) = us)) (h1 : Hid (sgn true (val us) = R)) (h2 : Hid (decide (R < 0) = pb ∧ dig R.natAbs = vs)) (hs : Hid (us.length ≤ 2097152)) (w : World) (ha : Hid (Lim w A xs)) (hb : Hid (Lim w C ys)) (hn : Hid (n = xs.length)) (hm : Hid (m = ys.length)) (hl : Hid (xs.length ≤ 1048576)) (kl : Hid (ys.length ≤ 1048576)) :
    Calls Try.prog 59 #[.agg #[.bool true, .slice A n c], .agg #[.bool true, .slice C m d]] w fun e w' => ∃ (A1 : Option Addr) (c1 : Nat), e = .returned (.agg #[.bool pb, .slice A1 vs.length c1]) ∧ vs.length ≤ c1 ∧ c1 ≤ 9223372036854775807 ∧ Lim w' A1 vs ∧ Plus w w' := by
  go_enter Try.func59, Try.ntmps59
  go_upto_region 2 with fail
  go_region_held3 (fun w' => w'.cell? ⟨w.heap.size, 0, none⟩ = some (.bool true) ∧ w'.cell? ⟨w.heap.size, 1, none⟩ = some (.slice A n c) ∧ w'.cell? ⟨w.heap.size + 1, 0, none⟩ = some (.bool true) ∧ w'.cell? ⟨w.heap.size + 1, 1, none⟩ = some (.slice C m d)) (refine ⟨?_, ?_, ?_, ?_⟩ <;> simp [go_sem]) (first | (go_at_call 81; (with_reducible refine (rplus_n A C xs ys us n c m d hv _ (by first | exact ha.out | (have q := ha.out; exact q.plus (by repeat' (first | exact Plus.refl _ | refine Plus.alloc ?_ _ | refine Plus.plus ?_ _ | refine Plus.drew ?_ | refine Plus.drewN ?_ _)))) (by first | exact hb.out | (have q := hb.out; exact q.plus (by repeat' (first | exact Plus.refl _ | refine Plus.alloc ?_ _ | refine Plus.plus ?_ _ | refine Plus.drew ?_ | refine Plus.drewN ?_ _)))) hn.out hm.out hl.out kl.out).mono ?_); rintro e w1 ⟨A1, c1, rfl, q1, q2, q3, ⟨x1, rfl⟩⟩; have HN := Lib.hid q3; have HL1 := Lib.hid q1; have HC1 := Lib.hid q2; clear q1 q2 q3) | (go_at_call 62; (with_reducible refine (rmade_n _ pb A1 us vs us.length c1 R h1 h2 _ (by first | exact HN.out | (have q := HN.out; simp only [plus_drew] at q; exact q)) rfl HL1.out HC1.out hs.out).mono ?_); rintro e w1 ⟨A2, c2, rfl, r1, r2, r3, ⟨x2, rfl⟩⟩; have HR := Lib.hid r3; have HR1 := Lib.hid r1; clear r3 r1))
  all_goals
    go_wp2_with fail
    go_returns
    refine ⟨A2, c2, rfl, HR1.out, r2, ?_, ?_⟩
    · have q2 := HR.out
      first | exact q2.res2 | (simp only [plus_drew] at q2; exact q2.res2)
    · repeat' (first | exact Plus.refl _ | refine Plus.alloc ?_ _ | refine Plus.plus ?_ _ | refine Plus.drew ?_ | refine Plus.drewN ?_ _)

set_option maxRecDepth 100000 in
set_option maxHeartbeats 4000000 in
theorem rsum_gt (pb : Bool) (A C : Option Addr) (xs ys us : List Nat) (n c m d : Nat) (vs : List Nat) (R : Int) (hv : Hid (dig (val xs - val ys) = us)) (hle : Hid (val ys ≤ val xs)) (v : Int) (hc : Hid (cmpI (val xs) (val ys) = v)) (v0 : 0 ≤ v) (h1 : Hid (sgn true (val us) = R)) (h2 : Hid (decide (R < 0) = pb ∧ dig R.natAbs = vs)) (hs : Hid (us.length ≤ 2097152)) (w : World) (ha : Hid (Lim w A xs)) (hb : Hid (Lim w C ys)) (hn : Hid (n = xs.length)) (hm : Hid (m = ys.length)) (hl : Hid (xs.length ≤ 1048576)) (kl : Hid (ys.length ≤ 1048576)) :
    Calls Try.prog 59 #[.agg #[.bool true, .slice A n c], .agg #[.bool false, .slice C m d]] w fun e w' => ∃ (A1 : Option Addr) (c1 : Nat), e = .returned (.agg #[.bool pb, .slice A1 vs.length c1]) ∧ vs.length ≤ c1 ∧ c1 ≤ 9223372036854775807 ∧ Lim w' A1 vs ∧ Plus w w' := by
  go_enter Try.func59, Try.ntmps59
  go_wp2_with fail
  refine (rcmp_n A C xs ys n c m d hc _ (by first | exact ha.out | (have q := ha.out; exact q.plus (by repeat' (first | exact Plus.refl _ | refine Plus.alloc ?_ _ | refine Plus.plus ?_ _ | refine Plus.drew ?_ | refine Plus.drewN ?_ _)))) (by first | exact hb.out | (have q := hb.out; exact q.plus (by repeat' (first | exact Plus.refl _ | refine Plus.alloc ?_ _ | refine Plus.plus ?_ _ | refine Plus.drew ?_ | refine Plus.drewN ?_ _)))) hn.out hm.out hl.out kl.out).mono ?_
  rintro e w1 ⟨rfl, rfl⟩
  go_upto_region 4 with fail
  go_region_held3 (fun w' => w'.cell? ⟨w.heap.size, 0, none⟩ = some (.bool true) ∧ w'.cell? ⟨w.heap.size, 1, none⟩ = some (.slice A n c) ∧ w'.cell? ⟨w.heap.size + 1, 0, none⟩ = some (.bool false) ∧ w'.cell? ⟨w.heap.size + 1, 1, none⟩ = some (.slice C m d)) (refine ⟨?_, ?_, ?_, ?_⟩ <;> simp [go_sem]) (first | (go_at_call 73; (with_reducible refine (rminus_n A C xs ys us n c m d hv hle _ (by first | exact ha.out | (have q := ha.out; exact q.plus (by repeat' (first | exact Plus.refl _ | refine Plus.alloc ?_ _ | refine Plus.plus ?_ _ | refine Plus.drew ?_ | refine Plus.drewN ?_ _)))) (by first | exact hb.out | (have q := hb.out; exact q.plus (by repeat' (first | exact Plus.refl _ | refine Plus.alloc ?_ _ | refine Plus.plus ?_ _ | refine Plus.drew ?_ | refine Plus.drewN ?_ _)))) hn.out hm.out hl.out kl.out).mono ?_); rintro e w1 ⟨A1, c1, rfl, q1, q2, q3, ⟨x1, rfl⟩⟩; have HN := Lib.hid q3; have HL1 := Lib.hid q1; have HC1 := Lib.hid q2; clear q1 q2 q3) | (go_at_call 62; (with_reducible refine (rmade_n _ pb A1 us vs us.length c1 R h1 h2 _ (by first | exact HN.out | (have q := HN.out; simp only [plus_drew] at q; exact q)) rfl HL1.out HC1.out hs.out).mono ?_); rintro e w1 ⟨A2, c2, rfl, r1, r2, r3, ⟨x2, rfl⟩⟩; have HR := Lib.hid r3; have HR1 := Lib.hid r1; clear r3 r1))
  all_goals
    go_wp2_with fail
    go_returns
    refine ⟨A2, c2, rfl, HR1.out, r2, ?_, ?_⟩
    · have q2 := HR.out
      first | exact q2.res2 | (simp only [plus_drew] at q2; exact q2.res2)
    · repeat' (first | exact Plus.refl _ | refine Plus.alloc ?_ _ | refine Plus.plus ?_ _ | refine Plus.drew ?_ | refine Plus.drewN ?_ _)

set_option maxRecDepth 100000 in
set_option maxHeartbeats 4000000 in
theorem rsum_lt (pb : Bool) (A C : Option Addr) (xs ys us : List Nat) (n c m d : Nat) (vs : List Nat) (R : Int) (hv : Hid (dig (val ys - val xs) = us)) (hle : Hid (val xs ≤ val ys)) (hc : Hid (cmpI (val xs) (val ys) = -1)) (h1 : Hid (sgn false (val us) = R)) (h2 : Hid (decide (R < 0) = pb ∧ dig R.natAbs = vs)) (hs : Hid (us.length ≤ 2097152)) (w : World) (ha : Hid (Lim w A xs)) (hb : Hid (Lim w C ys)) (hn : Hid (n = xs.length)) (hm : Hid (m = ys.length)) (hl : Hid (xs.length ≤ 1048576)) (kl : Hid (ys.length ≤ 1048576)) :
    Calls Try.prog 59 #[.agg #[.bool true, .slice A n c], .agg #[.bool false, .slice C m d]] w fun e w' => ∃ (A1 : Option Addr) (c1 : Nat), e = .returned (.agg #[.bool pb, .slice A1 vs.length c1]) ∧ vs.length ≤ c1 ∧ c1 ≤ 9223372036854775807 ∧ Lim w' A1 vs ∧ Plus w w' := by
  go_enter Try.func59, Try.ntmps59
  go_wp2_with fail
  refine (rcmp_n A C xs ys n c m d hc _ (by first | exact ha.out | (have q := ha.out; exact q.plus (by repeat' (first | exact Plus.refl _ | refine Plus.alloc ?_ _ | refine Plus.plus ?_ _ | refine Plus.drew ?_ | refine Plus.drewN ?_ _)))) (by first | exact hb.out | (have q := hb.out; exact q.plus (by repeat' (first | exact Plus.refl _ | refine Plus.alloc ?_ _ | refine Plus.plus ?_ _ | refine Plus.drew ?_ | refine Plus.drewN ?_ _)))) hn.out hm.out hl.out kl.out).mono ?_
  rintro e w1 ⟨rfl, rfl⟩
  go_upto_region 5 with fail
  go_region_held3 (fun w' => w'.cell? ⟨w.heap.size, 0, none⟩ = some (.bool true) ∧ w'.cell? ⟨w.heap.size, 1, none⟩ = some (.slice A n c) ∧ w'.cell? ⟨w.heap.size + 1, 0, none⟩ = some (.bool false) ∧ w'.cell? ⟨w.heap.size + 1, 1, none⟩ = some (.slice C m d)) (refine ⟨?_, ?_, ?_, ?_⟩ <;> simp [go_sem]) (first | (go_at_call 73; (with_reducible refine (rminus_n C A ys xs us m d n c hv hle _ (by first | exact hb.out | (have q := hb.out; exact q.plus (by repeat' (first | exact Plus.refl _ | refine Plus.alloc ?_ _ | refine Plus.plus ?_ _ | refine Plus.drew ?_ | refine Plus.drewN ?_ _)))) (by first | exact ha.out | (have q := ha.out; exact q.plus (by repeat' (first | exact Plus.refl _ | refine Plus.alloc ?_ _ | refine Plus.plus ?_ _ | refine Plus.drew ?_ | refine Plus.drewN ?_ _)))) hm.out hn.out kl.out hl.out).mono ?_); rintro e w1 ⟨A1, c1, rfl, q1, q2, q3, ⟨x1, rfl⟩⟩; have HN := Lib.hid q3; have HL1 := Lib.hid q1; have HC1 := Lib.hid q2; clear q1 q2 q3) | (go_at_call 62; (with_reducible refine (rmade_n _ pb A1 us vs us.length c1 R h1 h2 _ (by first | exact HN.out | (have q := HN.out; simp only [plus_drew] at q; exact q)) rfl HL1.out HC1.out hs.out).mono ?_); rintro e w1 ⟨A2, c2, rfl, r1, r2, r3, ⟨x2, rfl⟩⟩; have HR := Lib.hid r3; have HR1 := Lib.hid r1; clear r3 r1))
  all_goals
    go_wp2_with fail
    go_returns
    refine ⟨A2, c2, rfl, HR1.out, r2, ?_, ?_⟩
    · have q2 := HR.out
      first | exact q2.res2 | (simp only [plus_drew] at q2; exact q2.res2)
    · repeat' (first | exact Plus.refl _ | refine Plus.alloc ?_ _ | refine Plus.plus ?_ _ | refine Plus.drew ?_ | refine Plus.drewN ?_ _)

set_option maxRecDepth 100000 in
set_option maxHeartbeats 4000000 in
theorem rsum_ef (pb : Bool) (A C : Option Addr) (xs ys us : List Nat) (n c m d : Nat) (vs : List Nat) (R : Int) (hv : Hid (dig (val xs + val ys) = us)) (h1 : Hid (sgn false (val us) = R)) (h2 : Hid (decide (R < 0) = pb ∧ dig R.natAbs = vs)) (hs : Hid (us.length ≤ 2097152)) (w : World) (ha : Hid (Lim w A xs)) (hb : Hid (Lim w C ys)) (hn : Hid (n = xs.length)) (hm : Hid (m = ys.length)) (hl : Hid (xs.length ≤ 1048576)) (kl : Hid (ys.length ≤ 1048576)) :
    Calls Try.prog 59 #[.agg #[.bool false, .slice A n c], .agg #[.bool false, .slice C m d]] w fun e w' => ∃ (A1 : Option Addr) (c1 : Nat), e = .returned (.agg #[.bool pb, .slice A1 vs.length c1]) ∧ vs.length ≤ c1 ∧ c1 ≤ 9223372036854775807 ∧ Lim w' A1 vs ∧ Plus w w' := by
  go_enter Try.func59, Try.ntmps59
  go_upto_region 2 with fail
  go_region_held3 (fun w' => w'.cell? ⟨w.heap.size, 0, none⟩ = some (.bool false) ∧ w'.cell? ⟨w.heap.size, 1, none⟩ = some (.slice A n c) ∧ w'.cell? ⟨w.heap.size + 1, 0, none⟩ = some (.bool false) ∧ w'.cell? ⟨w.heap.size + 1, 1, none⟩ = some (.slice C m d)) (refine ⟨?_, ?_, ?_, ?_⟩ <;> simp [go_sem]) (first | (go_at_call 81; (with_reducible refine (rplus_n A C xs ys us n c m d hv _ (by first | exact ha.out | (have q := ha.out; exact q.plus (by repeat' (first | exact Plus.refl _ | refine Plus.alloc ?_ _ | refine Plus.plus ?_ _ | refine Plus.drew ?_ | refine Plus.drewN ?_ _)))) (by first | exact hb.out | (have q := hb.out; exact q.plus (by repeat' (first | exact Plus.refl _ | refine Plus.alloc ?_ _ | refine Plus.plus ?_ _ | refine Plus.drew ?_ | refine Plus.drewN ?_ _)))) hn.out hm.out hl.out kl.out).mono ?_); rintro e w1 ⟨A1, c1, rfl, q1, q2, q3, ⟨x1, rfl⟩⟩; have HN := Lib.hid q3; have HL1 := Lib.hid q1; have HC1 := Lib.hid q2; clear q1 q2 q3) | (go_at_call 62; (with_reducible refine (rmade_n _ pb A1 us vs us.length c1 R h1 h2 _ (by first | exact HN.out | (have q := HN.out; simp only [plus_drew] at q; exact q)) rfl HL1.out HC1.out hs.out).mono ?_); rintro e w1 ⟨A2, c2, rfl, r1, r2, r3, ⟨x2, rfl⟩⟩; have HR := Lib.hid r3; have HR1 := Lib.hid r1; clear r3 r1))
  all_goals
    go_wp2_with fail
    go_returns
    refine ⟨A2, c2, rfl, HR1.out, r2, ?_, ?_⟩
    · have q2 := HR.out
      first | exact q2.res2 | (simp only [plus_drew] at q2; exact q2.res2)
    · repeat' (first | exact Plus.refl _ | refine Plus.alloc ?_ _ | refine Plus.plus ?_ _ | refine Plus.drew ?_ | refine Plus.drewN ?_ _)

set_option maxRecDepth 100000 in
set_option maxHeartbeats 4000000 in
theorem rsum_gf (pb : Bool) (A C : Option Addr) (xs ys us : List Nat) (n c m d : Nat) (vs : List Nat) (R : Int) (hv : Hid (dig (val xs - val ys) = us)) (hle : Hid (val ys ≤ val xs)) (v : Int) (hc : Hid (cmpI (val xs) (val ys) = v)) (v0 : 0 ≤ v) (h1 : Hid (sgn false (val us) = R)) (h2 : Hid (decide (R < 0) = pb ∧ dig R.natAbs = vs)) (hs : Hid (us.length ≤ 2097152)) (w : World) (ha : Hid (Lim w A xs)) (hb : Hid (Lim w C ys)) (hn : Hid (n = xs.length)) (hm : Hid (m = ys.length)) (hl : Hid (xs.length ≤ 1048576)) (kl : Hid (ys.length ≤ 1048576)) :
    Calls Try.prog 59 #[.agg #[.bool false, .slice A n c], .agg #[.bool true, .slice C m d]] w fun e w' => ∃ (A1 : Option Addr) (c1 : Nat), e = .returned (.agg #[.bool pb, .slice A1 vs.length c1]) ∧ vs.length ≤ c1 ∧ c1 ≤ 9223372036854775807 ∧ Lim w' A1 vs ∧ Plus w w' := by
  go_enter Try.func59, Try.ntmps59
  go_wp2_with fail
  refine (rcmp_n A C xs ys n c m d hc _ (by first | exact ha.out | (have q := ha.out; exact q.plus (by repeat' (first | exact Plus.refl _ | refine Plus.alloc ?_ _ | refine Plus.plus ?_ _ | refine Plus.drew ?_ | refine Plus.drewN ?_ _)))) (by first | exact hb.out | (have q := hb.out; exact q.plus (by repeat' (first | exact Plus.refl _ | refine Plus.alloc ?_ _ | refine Plus.plus ?_ _ | refine Plus.drew ?_ | refine Plus.drewN ?_ _)))) hn.out hm.out hl.out kl.out).mono ?_
  rintro e w1 ⟨rfl, rfl⟩
  go_upto_region 4 with fail
  go_region_held3 (fun w' => w'.cell? ⟨w.heap.size, 0, none⟩ = some (.bool false) ∧ w'.cell? ⟨w.heap.size, 1, none⟩ = some (.slice A n c) ∧ w'.cell? ⟨w.heap.size + 1, 0, none⟩ = some (.bool true) ∧ w'.cell? ⟨w.heap.size + 1, 1, none⟩ = some (.slice C m d)) (refine ⟨?_, ?_, ?_, ?_⟩ <;> simp [go_sem]) (first | (go_at_call 73; (with_reducible refine (rminus_n A C xs ys us n c m d hv hle _ (by first | exact ha.out | (have q := ha.out; exact q.plus (by repeat' (first | exact Plus.refl _ | refine Plus.alloc ?_ _ | refine Plus.plus ?_ _ | refine Plus.drew ?_ | refine Plus.drewN ?_ _)))) (by first | exact hb.out | (have q := hb.out; exact q.plus (by repeat' (first | exact Plus.refl _ | refine Plus.alloc ?_ _ | refine Plus.plus ?_ _ | refine Plus.drew ?_ | refine Plus.drewN ?_ _)))) hn.out hm.out hl.out kl.out).mono ?_); rintro e w1 ⟨A1, c1, rfl, q1, q2, q3, ⟨x1, rfl⟩⟩; have HN := Lib.hid q3; have HL1 := Lib.hid q1; have HC1 := Lib.hid q2; clear q1 q2 q3) | (go_at_call 62; (with_reducible refine (rmade_n _ pb A1 us vs us.length c1 R h1 h2 _ (by first | exact HN.out | (have q := HN.out; simp only [plus_drew] at q; exact q)) rfl HL1.out HC1.out hs.out).mono ?_); rintro e w1 ⟨A2, c2, rfl, r1, r2, r3, ⟨x2, rfl⟩⟩; have HR := Lib.hid r3; have HR1 := Lib.hid r1; clear r3 r1))
  all_goals
    go_wp2_with fail
    go_returns
    refine ⟨A2, c2, rfl, HR1.out, r2, ?_, ?_⟩
    · have q2 := HR.out
      first | exact q2.res2 | (simp only [plus_drew] at q2; exact q2.res2)
    · repeat' (first | exact Plus.refl _ | refine Plus.alloc ?_ _ | refine Plus.plus ?_ _ | refine Plus.drew ?_ | refine Plus.drewN ?_ _)

set_option maxRecDepth 100000 in
set_option maxHeartbeats 4000000 in
theorem rsum_lf (pb : Bool) (A C : Option Addr) (xs ys us : List Nat) (n c m d : Nat) (vs : List Nat) (R : Int) (hv : Hid (dig (val ys - val xs) = us)) (hle : Hid (val xs ≤ val ys)) (hc : Hid (cmpI (val xs) (val ys) = -1)) (h1 : Hid (sgn true (val us) = R)) (h2 : Hid (decide (R < 0) = pb ∧ dig R.natAbs = vs)) (hs : Hid (us.length ≤ 2097152)) (w : World) (ha : Hid (Lim w A xs)) (hb : Hid (Lim w C ys)) (hn : Hid (n = xs.length)) (hm : Hid (m = ys.length)) (hl : Hid (xs.length ≤ 1048576)) (kl : Hid (ys.length ≤ 1048576)) :
    Calls Try.prog 59 #[.agg #[.bool false, .slice A n c], .agg #[.bool true, .slice C m d]] w fun e w' => ∃ (A1 : Option Addr) (c1 : Nat), e = .returned (.agg #[.bool pb, .slice A1 vs.length c1]) ∧ vs.length ≤ c1 ∧ c1 ≤ 9223372036854775807 ∧ Lim w' A1 vs ∧ Plus w w' := by
  go_enter Try.func59, Try.ntmps59
  go_wp2_with fail
  refine (rcmp_n A C xs ys n c m d hc _ (by first | exact ha.out | (have q := ha.out; exact q.plus (by repeat' (first | exact Plus.refl _ | refine Plus.alloc ?_ _ | refine Plus.plus ?_ _ | refine Plus.drew ?_ | refine Plus.drewN ?_ _)))) (by first | exact hb.out | (have q := hb.out; exact q.plus (by repeat' (first | exact Plus.refl _ | refine Plus.alloc ?_ _ | refine Plus.plus ?_ _ | refine Plus.drew ?_ | refine Plus.drewN ?_ _)))) hn.out hm.out hl.out kl.out).mono ?_
  rintro e w1 ⟨rfl, rfl⟩
  go_upto_region 5 with fail
  go_region_held3 (fun w' => w'.cell? ⟨w.heap.size, 0, none⟩ = some (.bool false) ∧ w'.cell? ⟨w.heap.size, 1, none⟩ = some (.slice A n c) ∧ w'.cell? ⟨w.heap.size + 1, 0, none⟩ = some (.bool true) ∧ w'.cell? ⟨w.heap.size + 1, 1, none⟩ = some (.slice C m d)) (refine ⟨?_, ?_, ?_, ?_⟩ <;> simp [go_sem]) (first | (go_at_call 73; (with_reducible refine (rminus_n C A ys xs us m d n c hv hle _ (by first | exact hb.out | (have q := hb.out; exact q.plus (by repeat' (first | exact Plus.refl _ | refine Plus.alloc ?_ _ | refine Plus.plus ?_ _ | refine Plus.drew ?_ | refine Plus.drewN ?_ _)))) (by first | exact ha.out | (have q := ha.out; exact q.plus (by repeat' (first | exact Plus.refl _ | refine Plus.alloc ?_ _ | refine Plus.plus ?_ _ | refine Plus.drew ?_ | refine Plus.drewN ?_ _)))) hm.out hn.out kl.out hl.out).mono ?_); rintro e w1 ⟨A1, c1, rfl, q1, q2, q3, ⟨x1, rfl⟩⟩; have HN := Lib.hid q3; have HL1 := Lib.hid q1; have HC1 := Lib.hid q2; clear q1 q2 q3) | (go_at_call 62; (with_reducible refine (rmade_n _ pb A1 us vs us.length c1 R h1 h2 _ (by first | exact HN.out | (have q := HN.out; simp only [plus_drew] at q; exact q)) rfl HL1.out HC1.out hs.out).mono ?_); rintro e w1 ⟨A2, c2, rfl, r1, r2, r3, ⟨x2, rfl⟩⟩; have HR := Lib.hid r3; have HR1 := Lib.hid r1; clear r3 r1))
  all_goals
    go_wp2_with fail
    go_returns
    refine ⟨A2, c2, rfl, HR1.out, r2, ?_, ?_⟩
    · have q2 := HR.out
      first | exact q2.res2 | (simp only [plus_drew] at q2; exact q2.res2)
    · repeat' (first | exact Plus.refl _ | refine Plus.alloc ?_ _ | refine Plus.plus ?_ _ | refine Plus.drew ?_ | refine Plus.drewN ?_ _)
end Go.Proofs.Ythaokkmbghgopaa
