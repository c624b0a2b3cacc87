/- BigReckons: the walk. -/
import Derived.Deep.RegionHeld3
import Derived.Test.YthaokkmbghgopaaE7
import Derived.Test.YthaokkmbghgopaaD13
import Derived.Test.YthaokkmbghgopaaC29
import Derived.Test.YthaokkmbghgopaaFR
namespace Go.Proofs.Ythaokkmbghgopaa
open Go.RowKit

theorem rmay_n {an : Bool} {A : Option Addr} {xs : List Nat} {n c : Nat} {v : Bool} (hr : Hid (mayL an xs = v)) (w : World) (ha : Arg w A xs n c) : Calls Try.prog 35 #[.agg #[.bool an, .slice A n c]] w fun e w' => e = .returned (.bool v) ∧ Plus w w' := by
  have h := rmay_c an A xs n c w ha.lim ha.len (by have := ha.few; omega)
  rw [hr.out] at h
  exact h
set_option maxRecDepth 100000 in
set_option maxHeartbeats 16000000 in
theorem reckons_h (an bn : Bool) (A C : Option Addr) (xs ys u1 u2 u3 u4 u5 u8 : List Nat) (n m c d : Nat) (a b r1 r2 r3 r4 r5 r8 e4 e5 v6 : Int) (o1 o2 o3 p1 p2 p3 p4 p5 p8 v7 v9 : Bool) (w : World) (ha : Hid (Arg w A xs n c)) (hb : Hid (Arg w C ys m d)) (hm : Hid (decide (n ≤ 40) = true)) (hm2 : Hid (decide (m ≤ 40) = true)) (hA : Hid (bigI an xs = a)) (hB : Hid (bigI bn ys = b)) (h1 : Hid (AddN a b r1 o1 p1 u1)) (h2 : Hid (SubN a b r2 o2 p2 u2)) (h3 : Hid (MulN a b r3 o3 p3 u3)) (h4 : Hid (DivN a b r4 e4 p4 u4)) (h5 : Hid (RemN a b r5 e5 p5 u5)) (h6 : Hid (cmpZ a b = v6)) (h7 : Hid (decide (a = b) = v7)) (h8 : Hid (NegN a r8 p8 u8)) (h9 : Hid (mayL an xs = v9)) :
    Calls Try.prog 3 #[.agg #[.bool an, .slice A n c], .agg #[.bool bn, .slice C m d]] w fun e w' => e = .returned (.bool true) ∧ Plus w w' := by
  go_enter Try.func3, Try.ntmps3
  go_upto_region 5 with (first | (go_at_call 14; (with_reducible refine (first_c _).mono ?_); rintro e w1 ⟨rfl, ⟨y0, rfl⟩⟩) | (go_at_call 15; (with_reducible refine (few_c hm _).mono ?_); rintro e w1 ⟨rfl, ⟨y1, rfl⟩⟩) | (go_at_call 15; (with_reducible refine (few_c hm2 _).mono ?_); rintro e w1 ⟨rfl, ⟨y2, rfl⟩⟩))
  go_cut [5, 6] (fun s5 s6 wx => ∃ b5 b6 A5 c5 A6 c6, s5 = .pointer (some ⟨b5, 0, none⟩) ∧ s6 = .pointer (some ⟨b6, 0, none⟩) ∧ Plus w wx ∧ BoxO wx w.heap.size an A n c ∧ BoxO wx (w.heap.size + 1) bn C m d ∧ BoxO wx b5 an A5 n c5 ∧ BoxO wx b6 bn A6 m c6 ∧ Arg wx A5 xs n c5 ∧ Arg wx A6 ys m c6)
  case first =>
    as_aux_lemma =>
      go_region_held3 (fun w' => w'.cell? ⟨w.heap.size, 0, none⟩ = some (.bool an) ∧ w'.cell? ⟨w.heap.size, 1, none⟩ = some (.slice A n c) ∧ w'.cell? ⟨(w.heap.size + 1), 0, none⟩ = some (.bool bn) ∧ w'.cell? ⟨(w.heap.size + 1), 1, none⟩ = some (.slice C m d)) (refine ⟨?_, ?_, ?_, ?_⟩ <;> simp [go_sem]) (first | (go_at_call_of 16 (Value.agg #[.bool an, .slice A n c]); (with_reducible refine (rcopy_c _ (by first | exact ha.out | (have q := ha.out; exact q.plus (by repeat' (first | exact Plus.refl _ | refine Plus.alloc ?_ _ | refine Plus.plus ?_ _ | refine Plus.drew ?_ | refine Plus.drewN ?_ _))))).mono ?_); rintro e w1 ⟨A5, c5, rfl, q1, ⟨xc5, rfl⟩⟩; have HNc5 := Lib.hid q1; clear q1) | (go_at_call_of 16 (Value.agg #[.bool bn, .slice C m d]); (with_reducible refine (rcopy_c _ (by first | exact hb.out | (have q := hb.out; exact q.plus (by repeat' (first | exact Plus.refl _ | refine Plus.alloc ?_ _ | refine Plus.plus ?_ _ | refine Plus.drew ?_ | refine Plus.drewN ?_ _))))).mono ?_); rintro e w1 ⟨A6, c6, rfl, q1, ⟨xc6, rfl⟩⟩; have HNc6 := Lib.hid q1; clear q1))
      all_goals (go_wp2_with fail; go_meet; refine ⟨_, _, A5, c5, A6, c6, rfl, rfl, ?_, ?_, ?_, ?_, ?_, ?_, ?_⟩)
      all_goals first | ((repeat' (first | exact Plus.refl _ | refine Plus.alloc ?_ _ | refine Plus.plus ?_ _ | refine Plus.drew ?_ | refine Plus.drewN ?_ _)); done) | ((repeat' (first | (refine BoxO.new' ?_; (simp [go_sem]; done)) | refine BoxO.alloc ?_ _ | refine BoxO.grow ?_ _ | refine BoxO.drew ?_)); done) | (have q := HNc5.out; (try simp only [plus_drew] at q); exact q.later (by repeat' (first | (refine Later.of_alt ?_; (repeat' (first | exact Alt.refl _ | refine Alt.grow ?_ _ | refine Alt.drewL ?_ | refine Alt.drewR ?_ | refine Alt.box ?_ (isBox.mk _ _ _ _ _) (isBox.mk _ _ _ _ _) | refine Alt.alloc ?_ _)); done) | refine Later.alloc ?_ _ | refine Later.grow ?_ _ | refine Later.drew ?_))) | (have q := HNc6.out; (try simp only [plus_drew] at q); exact q.later (by repeat' (first | (refine Later.of_alt ?_; (repeat' (first | exact Alt.refl _ | refine Alt.grow ?_ _ | refine Alt.drewL ?_ | refine Alt.drewR ?_ | refine Alt.box ?_ (isBox.mk _ _ _ _ _) (isBox.mk _ _ _ _ _) | refine Alt.alloc ?_ _)); done) | refine Later.alloc ?_ _ | refine Later.grow ?_ _ | refine Later.drew ?_)))
  case rest =>
    obtain ⟨b5, b6, A5, c5, A6, c6, rfl, rfl, hPw, hBa, hBb, hB5, hB6, hL5, hL6⟩ := hcut
    have HP := Lib.hid hPw
    have H5 := Lib.hid hL5
    have H6 := Lib.hid hL6
    have HAw := Lib.hid (ha.out.plus hPw)
    have HBw := Lib.hid (hb.out.plus hPw)
    have HA0 := ha
    have HB0 := hb
    clear hPw hL5 hL6 ha hb
    obtain ⟨ka0, ka1, ka2, ka3⟩ := hBa.cells
    haveI : Old w.heap.size wc := ⟨hBa.lt⟩
    obtain ⟨kb0, kb1, kb2, kb3⟩ := hBb.cells
    haveI : Old (w.heap.size + 1) wc := ⟨hBb.lt⟩
    obtain ⟨k50, k51, k52, k53⟩ := hB5.cells
    haveI : Old b5 wc := ⟨hB5.lt⟩
    obtain ⟨k60, k61, k62, k63⟩ := hB6.cells
    haveI : Old b6 wc := ⟨hB6.lt⟩
    go_wp2_with fail
    with_reducible refine (add_n hA hB h1 _ (H5.out.plus (by repeat' (first | exact Plus.refl _ | refine Plus.alloc ?_ _ | refine Plus.plus ?_ _ | refine Plus.drew ?_ | refine Plus.drewN ?_ _))) (H6.out.plus (by repeat' (first | exact Plus.refl _ | refine Plus.alloc ?_ _ | refine Plus.plus ?_ _ | refine Plus.drew ?_ | refine Plus.drewN ?_ _)))).mono ?_
    rintro e w1 ⟨A7, c7, rfl, a7, ⟨x7, rfl⟩⟩
    replace a7 := Lib.hid a7
    go_wp2_with fail
    with_reducible refine (rAdd_n hA hB h1 _ (HAw.out.plus (by repeat' (first | exact Plus.refl _ | refine Plus.alloc ?_ _ | refine Plus.plus ?_ _ | refine Plus.drew ?_ | refine Plus.drewN ?_ _))) (HBw.out.plus (by repeat' (first | exact Plus.refl _ | refine Plus.alloc ?_ _ | refine Plus.plus ?_ _ | refine Plus.drew ?_ | refine Plus.drewN ?_ _)))).mono ?_
    rintro e w1 ⟨A9, c9, rfl, a9, ⟨x9, rfl⟩⟩
    replace a9 := Lib.hid a9
    go_wp2_with fail
    with_reducible refine (sub_n hA hB h2 _ (H5.out.plus (by repeat' (first | exact Plus.refl _ | refine Plus.alloc ?_ _ | refine Plus.plus ?_ _ | refine Plus.drew ?_ | refine Plus.drewN ?_ _))) (H6.out.plus (by repeat' (first | exact Plus.refl _ | refine Plus.alloc ?_ _ | refine Plus.plus ?_ _ | refine Plus.drew ?_ | refine Plus.drewN ?_ _)))).mono ?_
    rintro e w1 ⟨A11, c11, rfl, a11, ⟨x11, rfl⟩⟩
    replace a11 := Lib.hid a11
    go_wp2_with fail
    with_reducible refine (rSub_n hA hB h2 _ (HAw.out.plus (by repeat' (first | exact Plus.refl _ | refine Plus.alloc ?_ _ | refine Plus.plus ?_ _ | refine Plus.drew ?_ | refine Plus.drewN ?_ _))) (HBw.out.plus (by repeat' (first | exact Plus.refl _ | refine Plus.alloc ?_ _ | refine Plus.plus ?_ _ | refine Plus.drew ?_ | refine Plus.drewN ?_ _)))).mono ?_
    rintro e w1 ⟨A13, c13, rfl, a13, ⟨x13, rfl⟩⟩
    replace a13 := Lib.hid a13
    go_wp2_with fail
    with_reducible refine (mul_n hA hB h3 _ (H5.out.plus (by repeat' (first | exact Plus.refl _ | refine Plus.alloc ?_ _ | refine Plus.plus ?_ _ | refine Plus.drew ?_ | refine Plus.drewN ?_ _))) (H6.out.plus (by repeat' (first | exact Plus.refl _ | refine Plus.alloc ?_ _ | refine Plus.plus ?_ _ | refine Plus.drew ?_ | refine Plus.drewN ?_ _)))).mono ?_
    rintro e w1 ⟨A15, c15, rfl, a15, ⟨x15, rfl⟩⟩
    replace a15 := Lib.hid a15
    go_wp2_with fail
    with_reducible refine (rMul_n hA hB h3 _ (HAw.out.plus (by repeat' (first | exact Plus.refl _ | refine Plus.alloc ?_ _ | refine Plus.plus ?_ _ | refine Plus.drew ?_ | refine Plus.drewN ?_ _))) (HBw.out.plus (by repeat' (first | exact Plus.refl _ | refine Plus.alloc ?_ _ | refine Plus.plus ?_ _ | refine Plus.drew ?_ | refine Plus.drewN ?_ _)))).mono ?_
    rintro e w1 ⟨A17, c17, rfl, a17, ⟨x17, rfl⟩⟩
    replace a17 := Lib.hid a17
    go_upto_region 17 with (first | (go_at_call 23; (with_reducible refine (same_big p1 A7 A9 u1 u1.length c7 c9 _ (Lib.hid (a7.out.plus (by repeat' (first | exact Plus.refl _ | refine Plus.alloc ?_ _ | refine Plus.plus ?_ _ | refine Plus.drew ?_ | refine Plus.drewN ?_ _)))) (Lib.hid (a9.out.plus (by repeat' (first | exact Plus.refl _ | refine Plus.alloc ?_ _ | refine Plus.plus ?_ _ | refine Plus.drew ?_ | refine Plus.drewN ?_ _))))).mono ?_); rintro e w1 ⟨rfl, ⟨t1, rfl⟩⟩) | (go_at_call 23; (with_reducible refine (same_big p2 A11 A13 u2 u2.length c11 c13 _ (Lib.hid (a11.out.plus (by repeat' (first | exact Plus.refl _ | refine Plus.alloc ?_ _ | refine Plus.plus ?_ _ | refine Plus.drew ?_ | refine Plus.drewN ?_ _)))) (Lib.hid (a13.out.plus (by repeat' (first | exact Plus.refl _ | refine Plus.alloc ?_ _ | refine Plus.plus ?_ _ | refine Plus.drew ?_ | refine Plus.drewN ?_ _))))).mono ?_); rintro e w1 ⟨rfl, ⟨t2, rfl⟩⟩) | (go_at_call 23; (with_reducible refine (same_big p3 A15 A17 u3 u3.length c15 c17 _ (Lib.hid (a15.out.plus (by repeat' (first | exact Plus.refl _ | refine Plus.alloc ?_ _ | refine Plus.plus ?_ _ | refine Plus.drew ?_ | refine Plus.drewN ?_ _)))) (Lib.hid (a17.out.plus (by repeat' (first | exact Plus.refl _ | refine Plus.alloc ?_ _ | refine Plus.plus ?_ _ | refine Plus.drew ?_ | refine Plus.drewN ?_ _))))).mono ?_); rintro e w1 ⟨rfl, ⟨t3, rfl⟩⟩) | (go_at_call 23; (with_reducible refine (same_big an A5 A xs n c5 c _ (Lib.hid (H5.out.plus (by repeat' (first | exact Plus.refl _ | refine Plus.alloc ?_ _ | refine Plus.plus ?_ _ | refine Plus.drew ?_ | refine Plus.drewN ?_ _)))) (Lib.hid (HAw.out.plus (by repeat' (first | exact Plus.refl _ | refine Plus.alloc ?_ _ | refine Plus.plus ?_ _ | refine Plus.drew ?_ | refine Plus.drewN ?_ _))))).mono ?_); rintro e w1 ⟨rfl, ⟨t4, rfl⟩⟩) | (go_at_call 23; (with_reducible refine (same_big bn A6 C ys m c6 d _ (Lib.hid (H6.out.plus (by repeat' (first | exact Plus.refl _ | refine Plus.alloc ?_ _ | refine Plus.plus ?_ _ | refine Plus.drew ?_ | refine Plus.drewN ?_ _)))) (Lib.hid (HBw.out.plus (by repeat' (first | exact Plus.refl _ | refine Plus.alloc ?_ _ | refine Plus.plus ?_ _ | refine Plus.drew ?_ | refine Plus.drewN ?_ _))))).mono ?_); rintro e w1 ⟨rfl, ⟨t5, rfl⟩⟩) | (go_at_call 24; (with_reducible refine (div_n hA hB h4 _ (H5.out.plus (by repeat' (first | exact Plus.refl _ | refine Plus.alloc ?_ _ | refine Plus.plus ?_ _ | refine Plus.drew ?_ | refine Plus.drewN ?_ _))) (H6.out.plus (by repeat' (first | exact Plus.refl _ | refine Plus.alloc ?_ _ | refine Plus.plus ?_ _ | refine Plus.drew ?_ | refine Plus.drewN ?_ _)))).mono ?_); rintro e w1 ⟨A19, c19, rfl, a19, ⟨x19, rfl⟩⟩; replace a19 := Lib.hid a19) | (go_at_call 25; (with_reducible refine (rDiv_n hA hB h4 _ (HAw.out.plus (by repeat' (first | exact Plus.refl _ | refine Plus.alloc ?_ _ | refine Plus.plus ?_ _ | refine Plus.drew ?_ | refine Plus.drewN ?_ _))) (HBw.out.plus (by repeat' (first | exact Plus.refl _ | refine Plus.alloc ?_ _ | refine Plus.plus ?_ _ | refine Plus.drew ?_ | refine Plus.drewN ?_ _)))).mono ?_); rintro e w1 ⟨A21, c21, rfl, a21, ⟨x21, rfl⟩⟩; replace a21 := Lib.hid a21) | (go_at_call 26; (with_reducible refine (rem_n hA hB h5 _ (H5.out.plus (by repeat' (first | exact Plus.refl _ | refine Plus.alloc ?_ _ | refine Plus.plus ?_ _ | refine Plus.drew ?_ | refine Plus.drewN ?_ _))) (H6.out.plus (by repeat' (first | exact Plus.refl _ | refine Plus.alloc ?_ _ | refine Plus.plus ?_ _ | refine Plus.drew ?_ | refine Plus.drewN ?_ _)))).mono ?_); rintro e w1 ⟨A23, c23, rfl, a23, ⟨x23, rfl⟩⟩; replace a23 := Lib.hid a23))
    go_cut [19, 20, 21, 22, 23, 24, 25, 26] (fun s19 s20 s21 s22 s23 s24 s25 s26 wx => ∃ b19 b21 b23 b25 A19 c19 A21 c21 A23 c23 A25 c25, s19 = .pointer (some ⟨b19, 0, none⟩) ∧ s20 = .int .i64 e4 ∧ s21 = .pointer (some ⟨b21, 0, none⟩) ∧ s22 = .int .i64 e4 ∧ s23 = .pointer (some ⟨b23, 0, none⟩) ∧ s24 = .int .i64 e5 ∧ s25 = .pointer (some ⟨b25, 0, none⟩) ∧ s26 = .int .i64 e5 ∧ Plus w wx ∧ BoxO wx w.heap.size an A n c ∧ BoxO wx (w.heap.size + 1) bn C m d ∧ BoxO wx b5 an A5 n c5 ∧ BoxO wx b6 bn A6 m c6 ∧ BoxO wx b19 p4 A19 u4.length c19 ∧ BoxO wx b21 p4 A21 u4.length c21 ∧ BoxO wx b23 p5 A23 u5.length c23 ∧ BoxO wx b25 p5 A25 u5.length c25 ∧ Arg wx A5 xs n c5 ∧ Arg wx A6 ys m c6 ∧ Arg wx A19 u4 u4.length c19 ∧ Arg wx A21 u4 u4.length c21 ∧ Arg wx A23 u5 u5.length c23 ∧ Arg wx A25 u5 u5.length c25)
    case first =>
      as_aux_lemma =>
        go_wp2_with fail
        with_reducible refine (rRem_n hA hB h5 _ (HAw.out.plus (by repeat' (first | exact Plus.refl _ | refine Plus.alloc ?_ _ | refine Plus.plus ?_ _ | refine Plus.drew ?_ | refine Plus.drewN ?_ _))) (HBw.out.plus (by repeat' (first | exact Plus.refl _ | refine Plus.alloc ?_ _ | refine Plus.plus ?_ _ | refine Plus.drew ?_ | refine Plus.drewN ?_ _)))).mono ?_
        rintro e w1 ⟨A25, c25, rfl, a25, ⟨x25, rfl⟩⟩
        replace a25 := Lib.hid a25
        go_wp2_with fail
        go_meet
        refine ⟨_, _, _, _, A19, c19, A21, c21, A23, c23, A25, c25, rfl, rfl, rfl, rfl, rfl, rfl, rfl, rfl, ?_, ?_, ?_, ?_, ?_, ?_, ?_, ?_, ?_, ?_, ?_, ?_, ?_, ?_, ?_⟩
        all_goals first | ((repeat' (first | exact HP.out | exact Plus.refl _ | refine Plus.alloc ?_ _ | refine Plus.plus ?_ _ | refine Plus.drew ?_ | refine Plus.drewN ?_ _)); done) | ((repeat' (first | exact hBa | exact hBb | exact hB5 | exact hB6 | (refine BoxO.new' ?_; (simp [go_sem]; done)) | refine BoxO.alloc ?_ _ | refine BoxO.grow ?_ _ | refine BoxO.drew ?_)); done) | (exact H5.out.plus (by repeat' (first | exact Plus.refl _ | refine Plus.alloc ?_ _ | refine Plus.plus ?_ _ | refine Plus.drew ?_ | refine Plus.drewN ?_ _))) | (exact H6.out.plus (by repeat' (first | exact Plus.refl _ | refine Plus.alloc ?_ _ | refine Plus.plus ?_ _ | refine Plus.drew ?_ | refine Plus.drewN ?_ _))) | (exact a19.out.plus (by repeat' (first | exact Plus.refl _ | refine Plus.alloc ?_ _ | refine Plus.plus ?_ _ | refine Plus.drew ?_ | refine Plus.drewN ?_ _))) | (exact a21.out.plus (by repeat' (first | exact Plus.refl _ | refine Plus.alloc ?_ _ | refine Plus.plus ?_ _ | refine Plus.drew ?_ | refine Plus.drewN ?_ _))) | (exact a23.out.plus (by repeat' (first | exact Plus.refl _ | refine Plus.alloc ?_ _ | refine Plus.plus ?_ _ | refine Plus.drew ?_ | refine Plus.drewN ?_ _))) | (exact a25.out.plus (by repeat' (first | exact Plus.refl _ | refine Plus.alloc ?_ _ | refine Plus.plus ?_ _ | refine Plus.drew ?_ | refine Plus.drewN ?_ _)))
    case rest =>
      clear HP H5 H6 ka0 ka1 ka2 ka3 kb0 kb1 kb2 kb3 k50 k51 k52 k53 k60 k61 k62 k63 hBa hBb hB5 hB6
      obtain ⟨b19, b21, b23, b25, A19, c19, A21, c21, A23, c23, A25, c25, rfl, rfl, rfl, rfl, rfl, rfl, rfl, rfl, hPw, hBa, hBb, hB5, hB6, hB19, hB21, hB23, hB25, hL5, hL6, hL19, hL21, hL23, hL25⟩ := hcut
      have HP2 := Lib.hid hPw
      have H5 := Lib.hid hL5
      have H6 := Lib.hid hL6
      have H19 := Lib.hid hL19
      have H21 := Lib.hid hL21
      have H23 := Lib.hid hL23
      have H25 := Lib.hid hL25
      have HAw := Lib.hid (Arg.plus HA0.out hPw)
      have HBw := Lib.hid (Arg.plus HB0.out hPw)
      clear hPw hL5 hL6 hL19 hL21 hL23 hL25
      obtain ⟨ka0, ka1, ka2, ka3⟩ := hBa.cells
      haveI : Old w.heap.size wc := ⟨hBa.lt⟩
      obtain ⟨kb0, kb1, kb2, kb3⟩ := hBb.cells
      haveI : Old (w.heap.size + 1) wc := ⟨hBb.lt⟩
      obtain ⟨k50, k51, k52, k53⟩ := hB5.cells
      haveI : Old b5 wc := ⟨hB5.lt⟩
      obtain ⟨k60, k61, k62, k63⟩ := hB6.cells
      haveI : Old b6 wc := ⟨hB6.lt⟩
      obtain ⟨k19_0, k19_1, k19_2, k19_3⟩ := hB19.cells
      haveI : Old b19 wc := ⟨hB19.lt⟩
      obtain ⟨k21_0, k21_1, k21_2, k21_3⟩ := hB21.cells
      haveI : Old b21 wc := ⟨hB21.lt⟩
      obtain ⟨k23_0, k23_1, k23_2, k23_3⟩ := hB23.cells
      haveI : Old b23 wc := ⟨hB23.lt⟩
      obtain ⟨k25_0, k25_1, k25_2, k25_3⟩ := hB25.cells
      haveI : Old b25 wc := ⟨hB25.lt⟩
      clear hBa hBb hB5 hB6 hB19 hB21 hB23 hB25
      as_aux_lemma =>
        go_wp2_with fail
        go_region_held3 (fun w' => w'.cell? ⟨w.heap.size, 0, none⟩ = some (.bool an) ∧ w'.cell? ⟨w.heap.size, 1, none⟩ = some (.slice A n c) ∧ w'.cell? ⟨(w.heap.size + 1), 0, none⟩ = some (.bool bn) ∧ w'.cell? ⟨(w.heap.size + 1), 1, none⟩ = some (.slice C m d) ∧ w'.cell? ⟨b5, 0, none⟩ = some (.bool an) ∧ w'.cell? ⟨b5, 1, none⟩ = some (.slice A5 n c5) ∧ w'.cell? ⟨b6, 0, none⟩ = some (.bool bn) ∧ w'.cell? ⟨b6, 1, none⟩ = some (.slice A6 m c6) ∧ w'.cell? ⟨b19, 0, none⟩ = some (.bool p4) ∧ w'.cell? ⟨b19, 1, none⟩ = some (.slice A19 u4.length c19) ∧ w'.cell? ⟨b21, 0, none⟩ = some (.bool p4) ∧ w'.cell? ⟨b21, 1, none⟩ = some (.slice A21 u4.length c21) ∧ w'.cell? ⟨b23, 0, none⟩ = some (.bool p5) ∧ w'.cell? ⟨b23, 1, none⟩ = some (.slice A23 u5.length c23) ∧ w'.cell? ⟨b25, 0, none⟩ = some (.bool p5) ∧ w'.cell? ⟨b25, 1, none⟩ = some (.slice A25 u5.length c25)) (refine ⟨?_, ?_, ?_, ?_, ?_, ?_, ?_, ?_, ?_, ?_, ?_, ?_, ?_, ?_, ?_, ?_⟩ <;> simp [go_sem, ka0, ka1, kb0, kb1, k50, k51, k60, k61, k19_0, k19_1, k21_0, k21_1, k23_0, k23_1, k25_0, k25_1]) (first | (go_at_call 14; (with_reducible refine (first_c _).mono ?_); rintro e w1 ⟨rfl, ⟨z0, rfl⟩⟩) | (go_at_call 23; (with_reducible refine (same_big p4 A19 A21 u4 u4.length c19 c21 _ (Lib.hid (H19.out.plus (by repeat' (first | exact Plus.refl _ | refine Plus.alloc ?_ _ | refine Plus.plus ?_ _ | refine Plus.drew ?_ | refine Plus.drewN ?_ _)))) (Lib.hid (H21.out.plus (by repeat' (first | exact Plus.refl _ | refine Plus.alloc ?_ _ | refine Plus.plus ?_ _ | refine Plus.drew ?_ | refine Plus.drewN ?_ _))))).mono ?_); rintro e w1 ⟨rfl, ⟨t41, rfl⟩⟩) | (go_at_call 23; (with_reducible refine (same_big p5 A23 A25 u5 u5.length c23 c25 _ (Lib.hid (H23.out.plus (by repeat' (first | exact Plus.refl _ | refine Plus.alloc ?_ _ | refine Plus.plus ?_ _ | refine Plus.drew ?_ | refine Plus.drewN ?_ _)))) (Lib.hid (H25.out.plus (by repeat' (first | exact Plus.refl _ | refine Plus.alloc ?_ _ | refine Plus.plus ?_ _ | refine Plus.drew ?_ | refine Plus.drewN ?_ _))))).mono ?_); rintro e w1 ⟨rfl, ⟨t42, rfl⟩⟩) | (go_at_call 28; (with_reducible refine (cmp_n hA hB h6 _ (H5.out.plus (by repeat' (first | exact Plus.refl _ | refine Plus.alloc ?_ _ | refine Plus.plus ?_ _ | refine Plus.drew ?_ | refine Plus.drewN ?_ _))) (H6.out.plus (by repeat' (first | exact Plus.refl _ | refine Plus.alloc ?_ _ | refine Plus.plus ?_ _ | refine Plus.drew ?_ | refine Plus.drewN ?_ _)))).mono ?_); rintro e w1 ⟨rfl, ⟨x28, rfl⟩⟩) | (go_at_call 29; (with_reducible refine (rcmpB_n hA hB h6 _ (HAw.out.plus (by repeat' (first | exact Plus.refl _ | refine Plus.alloc ?_ _ | refine Plus.plus ?_ _ | refine Plus.drew ?_ | refine Plus.drewN ?_ _))) (HBw.out.plus (by repeat' (first | exact Plus.refl _ | refine Plus.alloc ?_ _ | refine Plus.plus ?_ _ | refine Plus.drew ?_ | refine Plus.drewN ?_ _)))).mono ?_); rintro e w1 ⟨rfl, ⟨x29, rfl⟩⟩) | (go_at_call 30; (with_reducible refine (same_n hA hB h7 _ (H5.out.plus (by repeat' (first | exact Plus.refl _ | refine Plus.alloc ?_ _ | refine Plus.plus ?_ _ | refine Plus.drew ?_ | refine Plus.drewN ?_ _))) (H6.out.plus (by repeat' (first | exact Plus.refl _ | refine Plus.alloc ?_ _ | refine Plus.plus ?_ _ | refine Plus.drew ?_ | refine Plus.drewN ?_ _)))).mono ?_); rintro e w1 ⟨rfl, ⟨x30, rfl⟩⟩) | (go_at_call 31; (with_reducible refine (rsame_n hA hB h7 _ (HAw.out.plus (by repeat' (first | exact Plus.refl _ | refine Plus.alloc ?_ _ | refine Plus.plus ?_ _ | refine Plus.drew ?_ | refine Plus.drewN ?_ _))) (HBw.out.plus (by repeat' (first | exact Plus.refl _ | refine Plus.alloc ?_ _ | refine Plus.plus ?_ _ | refine Plus.drew ?_ | refine Plus.drewN ?_ _)))).mono ?_); rintro e w1 ⟨rfl, ⟨x31, rfl⟩⟩) | (go_at_call 32; (with_reducible refine (neg_n hA h8 _ (H5.out.plus (by repeat' (first | exact Plus.refl _ | refine Plus.alloc ?_ _ | refine Plus.plus ?_ _ | refine Plus.drew ?_ | refine Plus.drewN ?_ _)))).mono ?_); rintro e w1 ⟨A32, c32, rfl, a32, ⟨x32, rfl⟩⟩; (try simp only [plus_drew] at a32); replace a32 := Lib.hid a32) | (go_at_call 33; (with_reducible refine (rneg_n hA h8 _ (HAw.out.plus (by repeat' (first | exact Plus.refl _ | refine Plus.alloc ?_ _ | refine Plus.plus ?_ _ | refine Plus.drew ?_ | refine Plus.drewN ?_ _)))).mono ?_); rintro e w1 ⟨A33, c33, rfl, a33, ⟨x33, rfl⟩⟩; (try simp only [plus_drew] at a33); replace a33 := Lib.hid a33) | (go_at_call 23; (with_reducible refine (same_big p8 A32 A33 u8 u8.length c32 c33 _ (Lib.hid (a32.out.plus (by repeat' (first | exact Plus.refl _ | refine Plus.alloc ?_ _ | refine Plus.plus ?_ _ | refine Plus.drew ?_ | refine Plus.drewN ?_ _)))) (Lib.hid (a33.out.plus (by repeat' (first | exact Plus.refl _ | refine Plus.alloc ?_ _ | refine Plus.plus ?_ _ | refine Plus.drew ?_ | refine Plus.drewN ?_ _))))).mono ?_); rintro e w1 ⟨rfl, ⟨t43, rfl⟩⟩) | (go_at_call 34; (with_reducible refine (may_n h9 _ (HAw.out.plus (by repeat' (first | exact Plus.refl _ | refine Plus.alloc ?_ _ | refine Plus.plus ?_ _ | refine Plus.drew ?_ | refine Plus.drewN ?_ _)))).mono ?_); rintro e w1 ⟨rfl, ⟨x34, rfl⟩⟩) | (go_at_call 35; (with_reducible refine (rmay_n h9 _ (HAw.out.plus (by repeat' (first | exact Plus.refl _ | refine Plus.alloc ?_ _ | refine Plus.plus ?_ _ | refine Plus.drew ?_ | refine Plus.drewN ?_ _)))).mono ?_); rintro e w1 ⟨rfl, ⟨x35, rfl⟩⟩))
        all_goals
          go_wp2_with fail
          go_returns
          refine ⟨by simp, ?_⟩
          repeat' (first | exact HP2.out | exact Plus.refl _ | refine Plus.alloc ?_ _ | refine Plus.plus ?_ _ | refine Plus.drew ?_ | refine Plus.drewN ?_ _)


set_option maxRecDepth 100000 in
set_option maxHeartbeats 4000000 in
theorem reckons_few (an : Bool) (A : Option Addr) (n c : Nat) (bn : Bool) (C : Option Addr) (m d0 : Nat) (w : World) (hf : ¬ (n ≤ 40 ∧ m ≤ 40)) :
    Calls Try.prog 3 #[.agg #[.bool an, .slice A n c], .agg #[.bool bn, .slice C m d0]] w fun e w' => e = .returned (.bool true) ∧ Plus w w' := by
  obtain ⟨v1, e1⟩ : ∃ v, decide (n ≤ 40) = v := ⟨_, rfl⟩
  obtain ⟨v2, e2⟩ : ∃ v, decide (m ≤ 40) = v := ⟨_, rfl⟩
  have hff : ¬ (v1 = true ∧ v2 = true) := fun ⟨q1, q2⟩ => hf (by
    subst q1 q2
    exact ⟨of_decide_eq_true e1, of_decide_eq_true e2⟩)
  have E1 := Lib.hid e1
  have E2 := Lib.hid e2
  clear e1 e2 hf
  go_enter Try.func3, Try.ntmps3
  go_wp2_with fail
  refine (first_c _).mono ?_
  rintro e w1 ⟨rfl, ⟨y0, rfl⟩⟩
  go_wp2_with fail
  refine (few_c E1 _).mono ?_
  rintro e w1 ⟨rfl, ⟨y1, rfl⟩⟩
  cases v1
  · go_wp2_with fail
    refine (first_c _).mono ?_
    rintro e w1 ⟨rfl, ⟨y2, rfl⟩⟩
    go_wp2_with fail
    go_ret
    exact ⟨rfl, (by repeat' (first | exact Plus.refl _ | refine Plus.alloc ?_ _ | refine Plus.plus ?_ _ | refine Plus.drew ?_ | refine Plus.drewN ?_ _))⟩
  go_wp2_with fail
  refine (few_c E2 _).mono ?_
  rintro e w1 ⟨rfl, ⟨y2, rfl⟩⟩
  cases v2
  · go_wp2_with fail
    refine (first_c _).mono ?_
    rintro e w1 ⟨rfl, ⟨y3, rfl⟩⟩
    go_wp2_with fail
    go_ret
    exact ⟨rfl, (by repeat' (first | exact Plus.refl _ | refine Plus.alloc ?_ _ | refine Plus.plus ?_ _ | refine Plus.drew ?_ | refine Plus.drewN ?_ _))⟩
  · exact (hff (by simp)).elim

theorem nm_if (s : Int) : (if s.natAbs < B ^ 8 then s else 0).natAbs < B ^ 8 := by
  split
  · assumption
  · decide
theorem nm_div {a b : Int} (ha : a.natAbs < B ^ 8) : (if b.natAbs = 0 then 0 else a.tdiv b).natAbs < B ^ 8 := by
  split
  · decide
  · rw [Int.natAbs_tdiv]
    exact Nat.lt_of_le_of_lt (Nat.div_le_self _ _) ha
theorem nm_rem {a b : Int} (ha : a.natAbs < B ^ 8) : (if b.natAbs = 0 then 0 else a.tmod b).natAbs < B ^ 8 := by
  split
  · decide
  · rw [Int.natAbs_tmod]
    exact Nat.lt_of_le_of_lt (Nat.mod_le _ _) ha
theorem reckons_w (an : Bool) (A : Option Addr) (xs : List Nat) (n c : Nat) (bn : Bool) (C : Option Addr) (ys : List Nat) (m d0 : Nat) (w : World) (ha : Raw w A xs n c) (hb : Raw w C ys m d0) :
    Calls Try.prog 3 #[.agg #[.bool an, .slice A n c], .agg #[.bool bn, .slice C m d0]] w fun e w' => e = .returned (.bool true) ∧ Plus w w' := by
  by_cases hf : n ≤ 40 ∧ m ≤ 40
  · obtain ⟨f1, f2⟩ := hf
    have hA := ha.arg f1
    have hB := hb.arg f2
    obtain ⟨a, ga⟩ : ∃ a, bigI an xs = a := ⟨_, rfl⟩
    obtain ⟨b, gb⟩ : ∃ b, bigI bn ys = b := ⟨_, rfl⟩
    have hab : a.natAbs < B ^ 8 := by rw [← ga]; exact bigI_abs hA.lim.1
    have hbb : b.natAbs < B ^ 8 := by rw [← gb]; exact bigI_abs hB.lim.1
    have m1 := Nm.mk' (nm_if (a + b))
    have m2 := Nm.mk' (nm_if (a - b))
    have m3 := Nm.mk' (nm_if (a * b))
    have m4 := Nm.mk' (nm_div (b := b) hab)
    have m5 := Nm.mk' (nm_rem (b := b) hab)
    have m8 := Nm.mk' (n := -a) (by rw [Int.natAbs_neg]; exact hab)
    exact reckons_h an bn A C xs ys _ _ _ _ _ _ n m c d0 a b _ _ _ _ _ _ _ _ _ _ _ _ _ _ _ _ _ _ _ _ w (Lib.hid hA) (Lib.hid hB) (Lib.hid (decide_eq_true f1)) (Lib.hid (decide_eq_true f2)) (Lib.hid ga) (Lib.hid gb)
      (Lib.hid ⟨m1, rfl, rfl⟩) (Lib.hid ⟨m2, rfl, rfl⟩) (Lib.hid ⟨m3, rfl, rfl⟩) (Lib.hid ⟨m4, rfl, rfl⟩) (Lib.hid ⟨m5, rfl, rfl⟩) (Lib.hid rfl) (Lib.hid rfl) (Lib.hid ⟨m8, rfl⟩) (Lib.hid rfl)
  · exact reckons_few an A n c bn C m d0 w hf
end Go.Proofs.Ythaokkmbghgopaa
