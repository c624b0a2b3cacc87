/- The document's BigInts: Mul. -/
import Derived.Test.YthaokkmbghgopaaE2
import Derived.Test.YthaokkmbghgopaaE3
namespace Go.Proofs.Ythaokkmbghgopaa
open Go.RowKit


theorem rtimes_n (A C : Option Addr) (xs ys us : List Nat) (n c m d : Nat) (hv : Hid (dig (val xs * val ys) = us)) (w : World) (h : Lim w A xs) (k : Lim w C ys) (hn : n = xs.length) (hm : m = ys.length) (hl : xs.length ≤ 1024) (kl : ys.length ≤ 1024) : Calls Try.prog 63 #[.slice A n c, .slice C m d] w fun e w' => ∃ (A1 : Option Addr) (c1 : Nat), e = .returned (.slice A1 us.length c1) ∧ us.length ≤ c1 ∧ c1 ≤ 9223372036854775807 ∧ Lim w' A1 us ∧ Plus w w' := by
  have h := rtimes_c A C xs ys n c m d w h k hn hm hl kl
  obtain rfl := hv.out
  exact h.mono fun _ _ ⟨A1, c1, h1, h2, h3, h4, h5, _⟩ => ⟨A1, c1, h1, h2, h3, h4, h5⟩

set_option maxRecDepth 100000 in
set_option maxHeartbeats 8000000 in
theorem rMul_y (an bn pb qb : Bool) (A C : Option Addr) (xs ys us vs : List Nat) (n c m d : Nat) (sg0 sb : Bool) (ts ws : List Nat) (R : Int) (hs : Hid ((!(pb == qb)) = sg0)) (ht : Hid (dig (val us * val vs) = ts)) (hts : Hid (ts.length ≤ 2097152)) (hR1 : Hid (sgn sg0 (val ts) = R)) (hR2 : Hid (decide (R < 0) = sb ∧ dig R.natAbs = ws)) (hw : Hid (ws.length ≤ 8)) (h1 : Hid (decide (bigI an xs < 0) = pb ∧ dig (bigI an xs).natAbs = us)) (h2 : Hid (decide (bigI bn ys < 0) = qb ∧ dig (bigI bn ys).natAbs = vs)) (hu : Hid (us.length ≤ 8)) (hv : Hid (vs.length ≤ 8)) (w : World) (ha : Hid (Arg w A xs n c)) (hb : Hid (Arg w C ys m d)) :
    Calls Try.prog 22 #[.agg #[.bool an, .slice A n c], .agg #[.bool bn, .slice C m d]] w fun e w' => ∃ (A1 : Option Addr) (c1 : Nat), e = .returned (.tuple #[.agg #[.bool sb, .slice A1 ws.length c1], .bool true]) ∧ ws.length ≤ c1 ∧ c1 ≤ 9223372036854775807 ∧ Lim w' A1 ws ∧ Plus w w' := by
  go_enter Try.func22, Try.ntmps22
  go_upto_region 1 with fail
  go_cut [6, 7] (fun sa sb wx => ∃ b5 b6 A1 c1 C1 d1, sa = .pointer (some ⟨b5, 0, none⟩) ∧ sb = .pointer (some ⟨b6, 0, none⟩) ∧ w.heap.size + 1 + 1 < b5 ∧ w.heap.size + 1 + 1 < b6 ∧ Plus w wx ∧ BoxO wx (w.heap.size + 1 + 1) false none 0 0 ∧ BoxO wx b5 pb A1 us.length c1 ∧ BoxO wx b6 qb C1 vs.length d1 ∧ Arg wx A1 us us.length c1 ∧ Arg wx C1 vs vs.length d1)
  case first =>
    go_region_held3 (fun w' => w'.cell? ⟨w.heap.size, 0, none⟩ = some (.bool an) ∧ w'.cell? ⟨w.heap.size, 1, none⟩ = some (.slice A n c) ∧ w'.cell? ⟨w.heap.size + 1, 0, none⟩ = some (.bool bn) ∧ w'.cell? ⟨w.heap.size + 1, 1, none⟩ = some (.slice C m d)) (refine ⟨?_, ?_, ?_, ?_⟩ <;> simp [go_sem]) (first | (go_at_call_of 60 (Value.agg #[.bool an, .slice A n c]); (with_reducible refine (rgood_h h1 _ (by first | exact ha.out | (have q := ha.out; exact q.plus (by repeat' (first | exact Plus.refl _ | refine Plus.alloc ?_ _ | refine Plus.plus ?_ _ | refine Plus.drew ?_ | refine Plus.drewN ?_ _))))).mono ?_); rintro e w1 ⟨A1, c1, rfl, q1, q2, q3, ⟨xc1, rfl⟩⟩; have HNc1 := Lib.hid q3; have HLc1 := Lib.hid q1; have HCc1 := Lib.hid q2; clear q1 q2 q3) | (go_at_call_of 60 (Value.agg #[.bool bn, .slice C m d]); (with_reducible refine (rgood_h h2 _ (by first | exact hb.out | (have q := hb.out; exact q.plus (by repeat' (first | exact Plus.refl _ | refine Plus.alloc ?_ _ | refine Plus.plus ?_ _ | refine Plus.drew ?_ | refine Plus.drewN ?_ _))))).mono ?_); rintro e w1 ⟨C1, d1, rfl, q1, q2, q3, ⟨xd1, rfl⟩⟩; have HNd1 := Lib.hid q3; have HLd1 := Lib.hid q1; have HCd1 := Lib.hid q2; clear q1 q2 q3))
    all_goals (go_wp2_with fail; go_meet; refine ⟨_, _, A1, c1, C1, d1, rfl, rfl, ?_, ?_, ?_, ?_, ?_, ?_, ?_, ?_⟩)
    all_goals first | (omega) | ((simp only [size_plus, World.size_alloc]; omega); done) | ((repeat' (first | exact Plus.refl _ | refine Plus.alloc ?_ _ | refine Plus.plus ?_ _ | refine Plus.drew ?_ | refine Plus.drewN ?_ _)); done) | ((repeat' (first | (refine BoxO.new' ?_; (simp [go_sem]; done)) | refine BoxO.alloc ?_ _ | refine BoxO.grow ?_ _ | refine BoxO.drew ?_)); done) | (refine ⟨?_, rfl, by have := hu.out; omega, HLc1.out, HCc1.out⟩; (have q := HNc1.out; (try simp only [plus_drew] at q); exact q.later (by repeat' (first | (refine Later.of_alt ?_; (repeat' (first | exact Alt.refl _ | refine Alt.grow ?_ _ | refine Alt.drewL ?_ | refine Alt.drewR ?_ | refine Alt.box ?_ (isBox.mk _ _ _ _ _) (isBox.mk _ _ _ _ _) | refine Alt.alloc ?_ _)); done) | refine Later.alloc ?_ _ | refine Later.grow ?_ _ | refine Later.drew ?_)))) | (refine ⟨?_, rfl, by have := hv.out; omega, HLd1.out, HCd1.out⟩; (have q := HNd1.out; (try simp only [plus_drew] at q); exact q.later (by repeat' (first | (refine Later.of_alt ?_; (repeat' (first | exact Alt.refl _ | refine Alt.grow ?_ _ | refine Alt.drewL ?_ | refine Alt.drewR ?_ | refine Alt.box ?_ (isBox.mk _ _ _ _ _) (isBox.mk _ _ _ _ _) | refine Alt.alloc ?_ _)); done) | refine Later.alloc ?_ _ | refine Later.grow ?_ _ | refine Later.drew ?_))))
  case rest =>
    obtain ⟨b5, b6, A1, c1, C1, d1, rfl, rfl, g5, g6, hPw, hR, hB5, hB6, hL1, hL2⟩ := hcut
    have HP := Lib.hid hPw
    have L1 := Lib.hid hL1
    have L2 := Lib.hid hL2
    obtain ⟨k0, k1, k2, k3⟩ := hB5.cells
    obtain ⟨l0, l1, l2, l3⟩ := hB6.cells
    haveI : Old b5 wc := ⟨hB5.lt⟩
    haveI : Old b6 wc := ⟨hB6.lt⟩
    have HR0 := Lib.hid hR
    obtain ⟨r0, r1, r2, r3⟩ := hR.cells
    haveI : Old (w.heap.size + 1 + 1) wc := ⟨hR.lt⟩
    haveI : HasCell wc (w.heap.size + 1 + 1) 0 := ⟨_, r0⟩
    haveI : HasCell wc (w.heap.size + 1 + 1) 1 := ⟨_, r1⟩
    clear hR
    clear hPw hL1 hL2 hB5 hB6
    have n5 : w.heap.size + 1 + 1 ≠ b5 := by omega
    have n6 : w.heap.size + 1 + 1 ≠ b6 := by omega
    have m5 : b5 ≠ w.heap.size + 1 + 1 := by omega
    have m6 : b6 ≠ w.heap.size + 1 + 1 := by omega
    clear g5 g6
    have hs0 := hs.out
    have hs1 : (pb != qb) = sg0 := hs0
    clear hs
    go_upto_region 2 with fail
    go_region_held3 (fun w' => w'.cell? ⟨b5, 0, none⟩ = some (.bool pb) ∧ w'.cell? ⟨b5, 1, none⟩ = some (.slice A1 us.length c1) ∧ w'.cell? ⟨b6, 0, none⟩ = some (.bool qb) ∧ w'.cell? ⟨b6, 1, none⟩ = some (.slice C1 vs.length d1)) (refine ⟨?_, ?_, ?_, ?_⟩ <;> simp [go_sem, k0, k1, l0, l1]) (first | (go_at_call 63; (with_reducible refine (rtimes_n _ _ _ _ ts _ _ _ _ ht _ (by first | exact L1.out.lim | exact (L1.out.plus (by repeat' (first | exact Plus.refl _ | refine Plus.alloc ?_ _ | refine Plus.plus ?_ _ | refine Plus.drew ?_ | refine Plus.drewN ?_ _))).lim) (by first | exact L2.out.lim | exact (L2.out.plus (by repeat' (first | exact Plus.refl _ | refine Plus.alloc ?_ _ | refine Plus.plus ?_ _ | refine Plus.drew ?_ | refine Plus.drewN ?_ _))).lim) rfl rfl (by have := hu.out; omega) (by have := hv.out; omega)).mono ?_); rintro e w1 ⟨A3, c3, rfl, q1, q2, q3, ⟨x3, rfl⟩⟩; have HT := Lib.hid q3; have HT1 := Lib.hid q1; have HT2 := Lib.hid q2; clear q1 q2 q3) | (go_at_call 62; (with_reducible refine (rmade_n _ sb A3 ts ws ts.length c3 R hR1 hR2 _ (by have q := HT.out; (try simp only [plus_drew] at q); first | exact q | exact q.plus (by repeat' (first | exact Plus.refl _ | refine Plus.alloc ?_ _ | refine Plus.plus ?_ _ | refine Plus.drew ?_ | refine Plus.drewN ?_ _))) rfl HT1.out HT2.out (by have := hts.out; omega)).mono ?_); rintro e w1 ⟨A4, c4, rfl, r1, r2, r3, ⟨x4, rfl⟩⟩; have HR := Lib.hid r3; have HR1 := Lib.hid r1; have HR2 := Lib.hid r2; clear r1 r2 r3) | (go_at_call 58; (with_reducible refine (rfits_y sb A4 ws.length c4 _ hw.out).mono ?_); rintro e w1 ⟨rfl, ⟨x5, rfl⟩⟩))
    all_goals
      go_wp2_with fail
      go_returns
      refine ⟨A4, c4, rfl, HR1.out, HR2.out, ?_, ?_⟩
      · have q := HR.out
        (try simp only [plus_drew] at q)
        exact q.later (by repeat' (first | (refine Later.of_alt ?_; (repeat' (first | exact (Alt.sets _ HR0.out).1 | exact Alt.refl _ | refine Alt.grow ?_ _ | refine Alt.drewL ?_ | refine Alt.drewR ?_ | refine Alt.box ?_ (isBox.mk _ _ _ _ _) (isBox.mk _ _ _ _ _) | refine Alt.alloc ?_ _)); done) | refine Later.alloc ?_ _ | refine Later.grow ?_ _ | refine Later.drew ?_))
      · repeat' (first | exact HP.out | refine Plus.alloc ?_ _ | refine Plus.plus ?_ _ | (refine Plus.setCell ?_ (by show w.heap.size ≤ w.heap.size + 1 + 1; omega) _) | refine Plus.drew ?_ | refine Plus.drewN ?_ _)

set_option maxRecDepth 100000 in
set_option maxHeartbeats 8000000 in
theorem rMul_no (an bn pb qb : Bool) (A C : Option Addr) (xs ys us vs : List Nat) (n c m d : Nat) (sg0 sb : Bool) (ts ws : List Nat) (R : Int) (hs : Hid ((!(pb == qb)) = sg0)) (ht : Hid (dig (val us * val vs) = ts)) (hts : Hid (ts.length ≤ 2097152)) (hR1 : Hid (sgn sg0 (val ts) = R)) (hR2 : Hid (decide (R < 0) = sb ∧ dig R.natAbs = ws)) (hw : Hid (8 < ws.length)) (h1 : Hid (decide (bigI an xs < 0) = pb ∧ dig (bigI an xs).natAbs = us)) (h2 : Hid (decide (bigI bn ys < 0) = qb ∧ dig (bigI bn ys).natAbs = vs)) (hu : Hid (us.length ≤ 8)) (hv : Hid (vs.length ≤ 8)) (w : World) (ha : Hid (Arg w A xs n c)) (hb : Hid (Arg w C ys m d)) :
    Calls Try.prog 22 #[.agg #[.bool an, .slice A n c], .agg #[.bool bn, .slice C m d]] w fun e w' => e = .returned (.tuple #[.agg #[.bool false, .slice none 0 0], .bool false]) ∧ Plus w w' := by
  go_enter Try.func22, Try.ntmps22
  go_upto_region 1 with fail
  go_cut [6, 7] (fun sa sb wx => ∃ b5 b6 A1 c1 C1 d1, sa = .pointer (some ⟨b5, 0, none⟩) ∧ sb = .pointer (some ⟨b6, 0, none⟩) ∧ w.heap.size + 1 + 1 < b5 ∧ w.heap.size + 1 + 1 < b6 ∧ Plus w wx ∧ BoxO wx (w.heap.size + 1 + 1) false none 0 0 ∧ BoxO wx b5 pb A1 us.length c1 ∧ BoxO wx b6 qb C1 vs.length d1 ∧ Arg wx A1 us us.length c1 ∧ Arg wx C1 vs vs.length d1)
  case first =>
    go_region_held3 (fun w' => w'.cell? ⟨w.heap.size, 0, none⟩ = some (.bool an) ∧ w'.cell? ⟨w.heap.size, 1, none⟩ = some (.slice A n c) ∧ w'.cell? ⟨w.heap.size + 1, 0, none⟩ = some (.bool bn) ∧ w'.cell? ⟨w.heap.size + 1, 1, none⟩ = some (.slice C m d)) (refine ⟨?_, ?_, ?_, ?_⟩ <;> simp [go_sem]) (first | (go_at_call_of 60 (Value.agg #[.bool an, .slice A n c]); (with_reducible refine (rgood_h h1 _ (by first | exact ha.out | (have q := ha.out; exact q.plus (by repeat' (first | exact Plus.refl _ | refine Plus.alloc ?_ _ | refine Plus.plus ?_ _ | refine Plus.drew ?_ | refine Plus.drewN ?_ _))))).mono ?_); rintro e w1 ⟨A1, c1, rfl, q1, q2, q3, ⟨xc1, rfl⟩⟩; have HNc1 := Lib.hid q3; have HLc1 := Lib.hid q1; have HCc1 := Lib.hid q2; clear q1 q2 q3) | (go_at_call_of 60 (Value.agg #[.bool bn, .slice C m d]); (with_reducible refine (rgood_h h2 _ (by first | exact hb.out | (have q := hb.out; exact q.plus (by repeat' (first | exact Plus.refl _ | refine Plus.alloc ?_ _ | refine Plus.plus ?_ _ | refine Plus.drew ?_ | refine Plus.drewN ?_ _))))).mono ?_); rintro e w1 ⟨C1, d1, rfl, q1, q2, q3, ⟨xd1, rfl⟩⟩; have HNd1 := Lib.hid q3; have HLd1 := Lib.hid q1; have HCd1 := Lib.hid q2; clear q1 q2 q3))
    all_goals (go_wp2_with fail; go_meet; refine ⟨_, _, A1, c1, C1, d1, rfl, rfl, ?_, ?_, ?_, ?_, ?_, ?_, ?_, ?_⟩)
    all_goals first | (omega) | ((simp only [size_plus, World.size_alloc]; omega); done) | ((repeat' (first | exact Plus.refl _ | refine Plus.alloc ?_ _ | refine Plus.plus ?_ _ | refine Plus.drew ?_ | refine Plus.drewN ?_ _)); done) | ((repeat' (first | (refine BoxO.new' ?_; (simp [go_sem]; done)) | refine BoxO.alloc ?_ _ | refine BoxO.grow ?_ _ | refine BoxO.drew ?_)); done) | (refine ⟨?_, rfl, by have := hu.out; omega, HLc1.out, HCc1.out⟩; (have q := HNc1.out; (try simp only [plus_drew] at q); exact q.later (by repeat' (first | (refine Later.of_alt ?_; (repeat' (first | exact Alt.refl _ | refine Alt.grow ?_ _ | refine Alt.drewL ?_ | refine Alt.drewR ?_ | refine Alt.box ?_ (isBox.mk _ _ _ _ _) (isBox.mk _ _ _ _ _) | refine Alt.alloc ?_ _)); done) | refine Later.alloc ?_ _ | refine Later.grow ?_ _ | refine Later.drew ?_)))) | (refine ⟨?_, rfl, by have := hv.out; omega, HLd1.out, HCd1.out⟩; (have q := HNd1.out; (try simp only [plus_drew] at q); exact q.later (by repeat' (first | (refine Later.of_alt ?_; (repeat' (first | exact Alt.refl _ | refine Alt.grow ?_ _ | refine Alt.drewL ?_ | refine Alt.drewR ?_ | refine Alt.box ?_ (isBox.mk _ _ _ _ _) (isBox.mk _ _ _ _ _) | refine Alt.alloc ?_ _)); done) | refine Later.alloc ?_ _ | refine Later.grow ?_ _ | refine Later.drew ?_))))
  case rest =>
    obtain ⟨b5, b6, A1, c1, C1, d1, rfl, rfl, g5, g6, hPw, hR, hB5, hB6, hL1, hL2⟩ := hcut
    have HP := Lib.hid hPw
    have L1 := Lib.hid hL1
    have L2 := Lib.hid hL2
    obtain ⟨k0, k1, k2, k3⟩ := hB5.cells
    obtain ⟨l0, l1, l2, l3⟩ := hB6.cells
    haveI : Old b5 wc := ⟨hB5.lt⟩
    haveI : Old b6 wc := ⟨hB6.lt⟩
    have HR0 := Lib.hid hR
    obtain ⟨r0, r1, r2, r3⟩ := hR.cells
    haveI : Old (w.heap.size + 1 + 1) wc := ⟨hR.lt⟩
    haveI : HasCell wc (w.heap.size + 1 + 1) 0 := ⟨_, r0⟩
    haveI : HasCell wc (w.heap.size + 1 + 1) 1 := ⟨_, r1⟩
    clear hR
    clear hPw hL1 hL2 hB5 hB6
    have n5 : w.heap.size + 1 + 1 ≠ b5 := by omega
    have n6 : w.heap.size + 1 + 1 ≠ b6 := by omega
    have m5 : b5 ≠ w.heap.size + 1 + 1 := by omega
    have m6 : b6 ≠ w.heap.size + 1 + 1 := by omega
    clear g5 g6
    have hs0 := hs.out
    have hs1 : (pb != qb) = sg0 := hs0
    clear hs
    go_upto_region 2 with fail
    go_region_held3 (fun w' => w'.cell? ⟨b5, 0, none⟩ = some (.bool pb) ∧ w'.cell? ⟨b5, 1, none⟩ = some (.slice A1 us.length c1) ∧ w'.cell? ⟨b6, 0, none⟩ = some (.bool qb) ∧ w'.cell? ⟨b6, 1, none⟩ = some (.slice C1 vs.length d1)) (refine ⟨?_, ?_, ?_, ?_⟩ <;> simp [go_sem, k0, k1, l0, l1]) (first | (go_at_call 63; (with_reducible refine (rtimes_n _ _ _ _ ts _ _ _ _ ht _ (by first | exact L1.out.lim | exact (L1.out.plus (by repeat' (first | exact Plus.refl _ | refine Plus.alloc ?_ _ | refine Plus.plus ?_ _ | refine Plus.drew ?_ | refine Plus.drewN ?_ _))).lim) (by first | exact L2.out.lim | exact (L2.out.plus (by repeat' (first | exact Plus.refl _ | refine Plus.alloc ?_ _ | refine Plus.plus ?_ _ | refine Plus.drew ?_ | refine Plus.drewN ?_ _))).lim) rfl rfl (by have := hu.out; omega) (by have := hv.out; omega)).mono ?_); rintro e w1 ⟨A3, c3, rfl, q1, q2, q3, ⟨x3, rfl⟩⟩; have HT := Lib.hid q3; have HT1 := Lib.hid q1; have HT2 := Lib.hid q2; clear q1 q2 q3) | (go_at_call 62; (with_reducible refine (rmade_n _ sb A3 ts ws ts.length c3 R hR1 hR2 _ (by have q := HT.out; (try simp only [plus_drew] at q); first | exact q | exact q.plus (by repeat' (first | exact Plus.refl _ | refine Plus.alloc ?_ _ | refine Plus.plus ?_ _ | refine Plus.drew ?_ | refine Plus.drewN ?_ _))) rfl HT1.out HT2.out (by have := hts.out; omega)).mono ?_); rintro e w1 ⟨A4, c4, rfl, r1, r2, r3, ⟨x4, rfl⟩⟩; have HR := Lib.hid r3; have HR1 := Lib.hid r1; have HR2 := Lib.hid r2; clear r1 r2 r3) | (go_at_call 58; (with_reducible refine (rfits_no sb A4 ws.length c4 _ hw.out).mono ?_); rintro e w1 ⟨rfl, ⟨x5, rfl⟩⟩))
    all_goals
      go_wp2_with fail
      go_returns
      refine ⟨rfl, ?_⟩
      repeat' (first | exact HP.out | refine Plus.alloc ?_ _ | refine Plus.plus ?_ _ | (refine Plus.setCell ?_ (by show w.heap.size ≤ w.heap.size + 1 + 1; omega) _) | refine Plus.drew ?_ | refine Plus.drewN ?_ _)

theorem sgn_prod (a b : Int) : sgn (!(decide (a < 0) == decide (b < 0))) (a.natAbs * b.natAbs) = a * b := by
  rw [← Int.natAbs_mul]
  rcases Int.lt_or_le a 0 with h1 | h1 <;> rcases Int.lt_or_le b 0 with h2 | h2
  · rw [decide_eq_true h1, decide_eq_true h2]
    show sgn false _ = _
    rw [sgn_fa]
    have := Int.mul_pos_of_neg_of_neg h1 h2
    omega
  · rw [decide_eq_true h1, decide_eq_false (Int.not_lt.2 h2)]
    show sgn true _ = _
    rw [sgn_tr]
    have := Int.mul_nonpos_of_nonpos_of_nonneg (Int.le_of_lt h1) h2
    omega
  · rw [decide_eq_false (Int.not_lt.2 h1), decide_eq_true h2]
    show sgn true _ = _
    rw [sgn_tr]
    have := Int.mul_nonpos_of_nonneg_of_nonpos h1 (Int.le_of_lt h2)
    omega
  · rw [decide_eq_false (Int.not_lt.2 h1), decide_eq_false (Int.not_lt.2 h2)]
    show sgn false _ = _
    rw [sgn_fa]
    have := Int.mul_nonneg h1 h2
    omega

theorem rMul_n {an bn : Bool} {A C : Option Addr} {xs ys : List Nat} {n c m d : Nat} {a b r : Int} {pb : Bool} {us : List Nat} (hA : Hid (bigI an xs = a)) (hB : Hid (bigI bn ys = b)) {ok : Bool} (hr : Hid (MulN a b r ok pb us)) (w : World) (ha : Arg w A xs n c) (hb : Arg w C ys m d) : Calls Try.prog 22 #[.agg #[.bool an, .slice A n c], .agg #[.bool bn, .slice C m d]] w fun e w' => ∃ (A1 : Option Addr) (c1 : Nat), e = .returned (.tuple #[.agg #[.bool pb, .slice A1 us.length c1], .bool ok]) ∧ Arg w' A1 us us.length c1 ∧ Plus w w' := by
  have hab : (bigI an xs).natAbs < B ^ 8 := bigI_abs ha.lim.1
  have hbb : (bigI bn ys).natAbs < B ^ 8 := bigI_abs hb.lim.1
  obtain ⟨h1, h2, h3⟩ := hr.out
  have ⟨e1, e2, e3⟩ := h1
  have hS : sgn (!(decide (bigI an xs < 0) == decide (bigI bn ys < 0))) (val (dig (val (dig (bigI an xs).natAbs) * val (dig (bigI bn ys).natAbs)))) = a * b := by
    rw [val_dig, val_dig, val_dig, hA.out, hB.out]
    exact sgn_prod a b
  have hT : (dig (val (dig (bigI an xs).natAbs) * val (dig (bigI bn ys).natAbs))).length ≤ 2097152 := by
    rw [val_dig, val_dig]
    have h9 : (bigI an xs).natAbs * (bigI bn ys).natAbs < B ^ 16 := by
      have : (bigI an xs).natAbs * (bigI bn ys).natAbs < B ^ 8 * B ^ 8 := Nat.mul_lt_mul_of_lt_of_le hab (Nat.le_of_lt hbb) (Nat.pow_pos B_pos)
      rw [← Nat.pow_add] at this
      exact this
    have := dig_len_le h9
    omega
  by_cases hs : (a * b).natAbs < B ^ 8
  · rw [if_pos hs] at h3
    obtain rfl : ok = true := h2.trans (decide_eq_true hs)
    have h := rMul_y an bn _ _ A C xs ys _ _ n c m d _ pb _ us r (Lib.hid rfl) (Lib.hid rfl) (Lib.hid hT) (Lib.hid (by rw [hS, h3])) (Lib.hid ⟨e1, e2⟩) (Lib.hid (by rw [← e2]; exact dig_len_le e3)) (Lib.hid ⟨rfl, rfl⟩) (Lib.hid ⟨rfl, rfl⟩) (Lib.hid (dig_len_le hab)) (Lib.hid (dig_len_le hbb)) w (Lib.hid ha) (Lib.hid hb)
    exact h.mono fun _ _ ⟨A1, c1, q0, q1, q2, q3, q4⟩ => ⟨A1, c1, q0, h1.arg (by rw [e2]; exact q1) q2 (by rw [e2]; exact q3), q4⟩
  · rw [if_neg hs] at h3
    obtain rfl : ok = false := h2.trans (decide_eq_false hs)
    subst h3
    have h := rMul_no an bn _ _ A C xs ys _ _ n c m d _ _ _ _ (a * b) (Lib.hid rfl) (Lib.hid rfl) (Lib.hid hT) (Lib.hid hS) (Lib.hid ⟨rfl, rfl⟩) (Lib.hid (Nat.lt_of_not_le fun q => hs (dig_long.1 q))) (Lib.hid ⟨rfl, rfl⟩) (Lib.hid ⟨rfl, rfl⟩) (Lib.hid (dig_len_le hab)) (Lib.hid (dig_len_le hbb)) w (Lib.hid ha) (Lib.hid hb)
    have e4 : us = [] := by rw [← e2]; exact dig_zero
    have e5 : pb = false := by rw [← e1]; rfl
    subst e4 e5
    exact h.mono fun _ _ ⟨q0, q1⟩ => ⟨none, 0, q0, h1.arg (by rw [e2]; exact Nat.le_refl _) (by omega) (by rw [e2]; exact Lim.nil), q1⟩
end Go.Proofs.Ythaokkmbghgopaa
