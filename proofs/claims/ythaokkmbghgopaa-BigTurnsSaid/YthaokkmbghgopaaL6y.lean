/- BigTurns, of any two. -/
import Derived.Test.YthaokkmbghgopaaL6a
import Derived.Test.YthaokkmbghgopaaL6b
namespace Go.Proofs.Ythaokkmbghgopaa
open Go.RowKit


set_option maxHeartbeats 8000000 in
theorem turns_w (an : Bool) (A : Option Addr) (xs : List Nat) (n c : Nat) (bn : Bool) (C : Option Addr) (ys : List Nat) (m d : Nat) (w : World) (ha : Raw w A xs n c) (hb : Raw w C ys m d) :
    Calls Try.prog 6 #[.agg #[.bool an, .slice A n c], .agg #[.bool bn, .slice C m d]] w fun e w' => e = .returned (.bool true) ∧ Plus w w' := by
  by_cases hf : n ≤ 40 ∧ m ≤ 40
  · obtain ⟨f1, f2⟩ := hf
    obtain ⟨a, ga⟩ : ∃ a, bigI an xs = a := ⟨_, rfl⟩
    obtain ⟨b, gb⟩ : ∃ b, bigI bn ys = b := ⟨_, rfl⟩
    have hab : a.natAbs < B ^ 8 := by rw [← ga]; exact bigI_abs ha.lim.1
    have hbb : b.natAbs < B ^ 8 := by rw [← gb]; exact bigI_abs hb.lim.1
    obtain ⟨s, o1, b1, u1, m1, p1, r1⟩ := okN (a + b)
    obtain ⟨t, o2, b2, u2, m2, p2, r2⟩ := okN (a * b)
    have h1 : AddN a b s o1 b1 u1 := ⟨m1, p1, r1⟩
    have h1' : AddN b a s o1 b1 u1 := by unfold AddN; rw [Int.add_comm]; exact h1
    have h2 : MulN a b t o2 b2 u2 := ⟨m2, p2, r2⟩
    have h2' : MulN b a t o2 b2 u2 := by unfold MulN; rw [Int.mul_comm]; exact h2
    have ma := Nm.mk' hab
    have m0 := Nm.mk' (n := 0) (by decide)
    have h3 : o1 = true → SubN s b a true _ _ := fun ho => by
      refine ⟨ma, ?_, ?_⟩
      · rw [(ok_yes p1 r1 ho).1, show a + b - b = a by omega]
        exact (decide_eq_true hab).symm
      · rw [(ok_yes p1 r1 ho).1, show a + b - b = a by omega, if_pos hab]
    have hO : OfN 0 0 _ _ := ⟨m0, rfl, by omega, by omega⟩
    by_cases hz : b = 0
    · have hz' : b.natAbs = 0 := by omega
      have h5 : DivN a b 0 4 _ _ := ⟨m0, by rw [if_pos hz'], by rw [if_pos hz']⟩
      have h6 : RemN a b 0 4 _ _ := ⟨m0, by rw [if_pos hz'], by rw [if_pos hz']⟩
      cases o1
      · exact turns_zn _ _ _ _ _ _ _ _ _ _ _ _ _ _ _ _ _ _ _ _ _ _ _ _ _ w (Lib.hid (ha.arg f1)) (Lib.hid (hb.arg f2)) (Lib.hid ga) (Lib.hid gb) (Lib.hid (decide_eq_true f1)) (Lib.hid (decide_eq_true f2)) (Lib.hid h1) (Lib.hid h1') (Lib.hid m1.val) (Lib.hid (decide_eq_true rfl)) (Lib.hid h2) (Lib.hid h2') (Lib.hid m2.val) (Lib.hid (decide_eq_true rfl)) (Lib.hid h5) (Lib.hid h6) (Lib.hid hO) (Lib.hid m0.val) (Lib.hid (decide_eq_true hz))
      · exact turns_zy _ _ _ _ _ _ _ _ _ _ _ _ _ _ _ _ _ _ _ _ _ _ _ _ _ _ _ w (Lib.hid (ha.arg f1)) (Lib.hid (hb.arg f2)) (Lib.hid ga) (Lib.hid gb) (Lib.hid (decide_eq_true f1)) (Lib.hid (decide_eq_true f2)) (Lib.hid h1) (Lib.hid h1') (Lib.hid m1.val) (Lib.hid (decide_eq_true rfl)) (Lib.hid h2) (Lib.hid h2') (Lib.hid m2.val) (Lib.hid (decide_eq_true rfl)) (Lib.hid (h3 rfl)) (Lib.hid ma.val) (Lib.hid (decide_eq_true rfl)) (Lib.hid h5) (Lib.hid h6) (Lib.hid hO) (Lib.hid m0.val) (Lib.hid (decide_eq_true hz))
    · have hz' : ¬ b.natAbs = 0 := by omega
      obtain ⟨q, hq⟩ : ∃ q, a.tdiv b = q := ⟨_, rfl⟩
      obtain ⟨r, hr⟩ : ∃ r, a.tmod b = r := ⟨_, rfl⟩
      have hsum : q * b + r = a := by rw [← hq, ← hr, Int.mul_comm]; exact Int.mul_tdiv_add_tmod a b
      have hqa : q.natAbs = a.natAbs / b.natAbs := by rw [← hq]; exact Int.natAbs_tdiv a b
      have hra : r.natAbs = a.natAbs % b.natAbs := by rw [← hr]; exact Int.natAbs_tmod a b
      have hq8 : q.natAbs < B ^ 8 := by rw [hqa]; exact Nat.lt_of_le_of_lt (Nat.div_le_self _ _) hab
      have hrb : r.natAbs < b.natAbs := by rw [hra]; exact Nat.mod_lt _ (by omega)
      have hp8 : (q * b).natAbs < B ^ 8 := by rw [Int.natAbs_mul, hqa]; exact Nat.lt_of_le_of_lt (Nat.div_mul_le_self _ _) hab
      have mq := Nm.mk' hq8
      have mp := Nm.mk' hp8
      have h5 : DivN a b q 0 _ _ := ⟨mq, by rw [if_neg hz'], by rw [if_neg hz', hq]⟩
      have h7 : MulN q b (q * b) true _ _ := ⟨mp, (decide_eq_true hp8).symm, by rw [if_pos hp8]⟩
      have h8 : AddN (q * b) r a true _ _ := ⟨ma, by rw [hsum]; exact (decide_eq_true hab).symm, by rw [hsum, if_pos hab]⟩
      have mx := Nm.mk' (n := -r) (by omega)
      have my := Nm.mk' (n := -b) (by omega)
      by_cases hrn : r < 0
      · have mr : Nm r true (dig r.natAbs) := ⟨decide_eq_true hrn, rfl, by omega⟩
        have h6 : RemN a b r 0 _ _ := ⟨mr, by rw [if_neg hz'], by rw [if_neg hz', hr]⟩
        by_cases hbn : b < 0
        · cases o1
          · exact turns_rnn _ _ _ _ _ _ _ _ _ _ _ _ _ _ _ _ _ _ _ _ _ _ _ _ _ _ _ _ _ _ _ _ _ _ _ _ _ w (Lib.hid (ha.arg f1)) (Lib.hid (hb.arg f2)) (Lib.hid ga) (Lib.hid gb) (Lib.hid (decide_eq_true f1)) (Lib.hid (decide_eq_true f2)) (Lib.hid h1) (Lib.hid h1') (Lib.hid m1.val) (Lib.hid (decide_eq_true rfl)) (Lib.hid h2) (Lib.hid h2') (Lib.hid m2.val) (Lib.hid (decide_eq_true rfl)) (Lib.hid h5) (Lib.hid mq.val) (Lib.hid h6) (Lib.hid mr.val) (Lib.hid h7) (Lib.hid mp.val) (Lib.hid h8) (Lib.hid ma.val) (Lib.hid (decide_eq_true rfl)) (Lib.hid ⟨mx, rfl⟩) (Lib.hid mx.val) (Lib.hid hO) (Lib.hid m0.val) (Lib.hid (by unfold CmpN cmpZ; (repeat' split) <;> omega)) (Lib.hid ⟨my, rfl⟩) (Lib.hid my.val) (Lib.hid (by unfold CmpN cmpZ; (repeat' split) <;> omega))
          · exact turns_rny _ _ _ _ _ _ _ _ _ _ _ _ _ _ _ _ _ _ _ _ _ _ _ _ _ _ _ _ _ _ _ _ _ _ _ _ _ _ _ w (Lib.hid (ha.arg f1)) (Lib.hid (hb.arg f2)) (Lib.hid ga) (Lib.hid gb) (Lib.hid (decide_eq_true f1)) (Lib.hid (decide_eq_true f2)) (Lib.hid h1) (Lib.hid h1') (Lib.hid m1.val) (Lib.hid (decide_eq_true rfl)) (Lib.hid h2) (Lib.hid h2') (Lib.hid m2.val) (Lib.hid (decide_eq_true rfl)) (Lib.hid (h3 rfl)) (Lib.hid ma.val) (Lib.hid (decide_eq_true rfl)) (Lib.hid h5) (Lib.hid mq.val) (Lib.hid h6) (Lib.hid mr.val) (Lib.hid h7) (Lib.hid mp.val) (Lib.hid h8) (Lib.hid ma.val) (Lib.hid (decide_eq_true rfl)) (Lib.hid ⟨mx, rfl⟩) (Lib.hid mx.val) (Lib.hid hO) (Lib.hid m0.val) (Lib.hid (by unfold CmpN cmpZ; (repeat' split) <;> omega)) (Lib.hid ⟨my, rfl⟩) (Lib.hid my.val) (Lib.hid (by unfold CmpN cmpZ; (repeat' split) <;> omega))
        · cases o1
          · exact turns_rpn _ _ _ _ _ _ _ _ _ _ _ _ _ _ _ _ _ _ _ _ _ _ _ _ _ _ _ _ _ _ _ _ _ _ w (Lib.hid (ha.arg f1)) (Lib.hid (hb.arg f2)) (Lib.hid ga) (Lib.hid gb) (Lib.hid (decide_eq_true f1)) (Lib.hid (decide_eq_true f2)) (Lib.hid h1) (Lib.hid h1') (Lib.hid m1.val) (Lib.hid (decide_eq_true rfl)) (Lib.hid h2) (Lib.hid h2') (Lib.hid m2.val) (Lib.hid (decide_eq_true rfl)) (Lib.hid h5) (Lib.hid mq.val) (Lib.hid h6) (Lib.hid mr.val) (Lib.hid h7) (Lib.hid mp.val) (Lib.hid h8) (Lib.hid ma.val) (Lib.hid (decide_eq_true rfl)) (Lib.hid ⟨mx, rfl⟩) (Lib.hid mx.val) (Lib.hid hO) (Lib.hid m0.val) (Lib.hid (by unfold CmpN cmpZ; (repeat' split) <;> omega)) (Lib.hid (by unfold CmpN cmpZ; (repeat' split) <;> omega))
          · exact turns_rpy _ _ _ _ _ _ _ _ _ _ _ _ _ _ _ _ _ _ _ _ _ _ _ _ _ _ _ _ _ _ _ _ _ _ _ _ w (Lib.hid (ha.arg f1)) (Lib.hid (hb.arg f2)) (Lib.hid ga) (Lib.hid gb) (Lib.hid (decide_eq_true f1)) (Lib.hid (decide_eq_true f2)) (Lib.hid h1) (Lib.hid h1') (Lib.hid m1.val) (Lib.hid (decide_eq_true rfl)) (Lib.hid h2) (Lib.hid h2') (Lib.hid m2.val) (Lib.hid (decide_eq_true rfl)) (Lib.hid (h3 rfl)) (Lib.hid ma.val) (Lib.hid (decide_eq_true rfl)) (Lib.hid h5) (Lib.hid mq.val) (Lib.hid h6) (Lib.hid mr.val) (Lib.hid h7) (Lib.hid mp.val) (Lib.hid h8) (Lib.hid ma.val) (Lib.hid (decide_eq_true rfl)) (Lib.hid ⟨mx, rfl⟩) (Lib.hid mx.val) (Lib.hid hO) (Lib.hid m0.val) (Lib.hid (by unfold CmpN cmpZ; (repeat' split) <;> omega)) (Lib.hid (by unfold CmpN cmpZ; (repeat' split) <;> omega))
      · have mr : Nm r false (dig r.natAbs) := ⟨decide_eq_false hrn, rfl, by omega⟩
        have h6 : RemN a b r 0 _ _ := ⟨mr, by rw [if_neg hz'], by rw [if_neg hz', hr]⟩
        by_cases hbn : b < 0
        · cases o1
          · exact turns_pnn _ _ _ _ _ _ _ _ _ _ _ _ _ _ _ _ _ _ _ _ _ _ _ _ _ _ _ _ _ _ _ _ _ _ w (Lib.hid (ha.arg f1)) (Lib.hid (hb.arg f2)) (Lib.hid ga) (Lib.hid gb) (Lib.hid (decide_eq_true f1)) (Lib.hid (decide_eq_true f2)) (Lib.hid h1) (Lib.hid h1') (Lib.hid m1.val) (Lib.hid (decide_eq_true rfl)) (Lib.hid h2) (Lib.hid h2') (Lib.hid m2.val) (Lib.hid (decide_eq_true rfl)) (Lib.hid h5) (Lib.hid mq.val) (Lib.hid h6) (Lib.hid mr.val) (Lib.hid h7) (Lib.hid mp.val) (Lib.hid h8) (Lib.hid ma.val) (Lib.hid (decide_eq_true rfl)) (Lib.hid hO) (Lib.hid m0.val) (Lib.hid (by unfold CmpN cmpZ; (repeat' split) <;> omega)) (Lib.hid ⟨my, rfl⟩) (Lib.hid my.val) (Lib.hid (by unfold CmpN cmpZ; (repeat' split) <;> omega))
          · exact turns_pny _ _ _ _ _ _ _ _ _ _ _ _ _ _ _ _ _ _ _ _ _ _ _ _ _ _ _ _ _ _ _ _ _ _ _ _ w (Lib.hid (ha.arg f1)) (Lib.hid (hb.arg f2)) (Lib.hid ga) (Lib.hid gb) (Lib.hid (decide_eq_true f1)) (Lib.hid (decide_eq_true f2)) (Lib.hid h1) (Lib.hid h1') (Lib.hid m1.val) (Lib.hid (decide_eq_true rfl)) (Lib.hid h2) (Lib.hid h2') (Lib.hid m2.val) (Lib.hid (decide_eq_true rfl)) (Lib.hid (h3 rfl)) (Lib.hid ma.val) (Lib.hid (decide_eq_true rfl)) (Lib.hid h5) (Lib.hid mq.val) (Lib.hid h6) (Lib.hid mr.val) (Lib.hid h7) (Lib.hid mp.val) (Lib.hid h8) (Lib.hid ma.val) (Lib.hid (decide_eq_true rfl)) (Lib.hid hO) (Lib.hid m0.val) (Lib.hid (by unfold CmpN cmpZ; (repeat' split) <;> omega)) (Lib.hid ⟨my, rfl⟩) (Lib.hid my.val) (Lib.hid (by unfold CmpN cmpZ; (repeat' split) <;> omega))
        · cases o1
          · exact turns_ppn _ _ _ _ _ _ _ _ _ _ _ _ _ _ _ _ _ _ _ _ _ _ _ _ _ _ _ _ _ _ _ w (Lib.hid (ha.arg f1)) (Lib.hid (hb.arg f2)) (Lib.hid ga) (Lib.hid gb) (Lib.hid (decide_eq_true f1)) (Lib.hid (decide_eq_true f2)) (Lib.hid h1) (Lib.hid h1') (Lib.hid m1.val) (Lib.hid (decide_eq_true rfl)) (Lib.hid h2) (Lib.hid h2') (Lib.hid m2.val) (Lib.hid (decide_eq_true rfl)) (Lib.hid h5) (Lib.hid mq.val) (Lib.hid h6) (Lib.hid mr.val) (Lib.hid h7) (Lib.hid mp.val) (Lib.hid h8) (Lib.hid ma.val) (Lib.hid (decide_eq_true rfl)) (Lib.hid hO) (Lib.hid m0.val) (Lib.hid (by unfold CmpN cmpZ; (repeat' split) <;> omega)) (Lib.hid (by unfold CmpN cmpZ; (repeat' split) <;> omega))
          · exact turns_ppy _ _ _ _ _ _ _ _ _ _ _ _ _ _ _ _ _ _ _ _ _ _ _ _ _ _ _ _ _ _ _ _ _ w (Lib.hid (ha.arg f1)) (Lib.hid (hb.arg f2)) (Lib.hid ga) (Lib.hid gb) (Lib.hid (decide_eq_true f1)) (Lib.hid (decide_eq_true f2)) (Lib.hid h1) (Lib.hid h1') (Lib.hid m1.val) (Lib.hid (decide_eq_true rfl)) (Lib.hid h2) (Lib.hid h2') (Lib.hid m2.val) (Lib.hid (decide_eq_true rfl)) (Lib.hid (h3 rfl)) (Lib.hid ma.val) (Lib.hid (decide_eq_true rfl)) (Lib.hid h5) (Lib.hid mq.val) (Lib.hid h6) (Lib.hid mr.val) (Lib.hid h7) (Lib.hid mp.val) (Lib.hid h8) (Lib.hid ma.val) (Lib.hid (decide_eq_true rfl)) (Lib.hid hO) (Lib.hid m0.val) (Lib.hid (by unfold CmpN cmpZ; (repeat' split) <;> omega)) (Lib.hid (by unfold CmpN cmpZ; (repeat' split) <;> omega))
  · exact turns_few an A n c bn C m d w hf
end Go.Proofs.Ythaokkmbghgopaa
