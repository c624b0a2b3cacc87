/- BigSigns: the walk. -/
import Derived.Deep.RegionHeld3
import Derived.Test.YthaokkmbghgopaaG1
import Derived.Test.YthaokkmbghgopaaC26
import Derived.Test.YthaokkmbghgopaaC28
namespace Go.Proofs.Ythaokkmbghgopaa
open Go.RowKit

set_option maxRecDepth 100000 in
set_option maxHeartbeats 16000000 in
theorem signs_h (an bn : Bool) (A C : Option Addr) (xs ys u1 u2 u3 u4 u5 u6 u7 u8 u9 u10 u11 u12 u13 u14 : List Nat) (n m c d : Nat) (a b na nb s p q x y r t np nx nr er : Int) (f b1 b2 b3 b4 b5 b6 b7 b8 b9 b10 b11 b12 b13 b14 : Bool) (w : World) (ha : Hid (Arg w A xs n c)) (hb : Hid (Arg w C ys m d)) (hm : Hid (decide (n ≤ 40) = true)) (hm2 : Hid (decide (m ≤ 40) = true)) (hA : Hid (bigI an xs = a)) (hB : Hid (bigI bn ys = b)) (h1 : Hid (NegN a na b1 u1)) (g1 : Hid (bigI b1 u1 = na)) (h2 : Hid (AddN a na s true b2 u2)) (g2 : Hid (bigI b2 u2 = s)) (h3 : Hid (MulN a b p f b3 u3)) (g3 : Hid (bigI b3 u3 = p)) (h4 : Hid (MulN na b q f b4 u4)) (g4 : Hid (bigI b4 u4 = q)) (h5 : Hid (DivN a b x er b5 u5)) (g5 : Hid (bigI b5 u5 = x)) (h6 : Hid (DivN na b y er b6 u6)) (g6 : Hid (bigI b6 u6 = y)) (h7 : Hid (RemN a b r er b7 u7)) (g7 : Hid (bigI b7 u7 = r)) (h8 : Hid (NegN b nb b8 u8)) (g8 : Hid (bigI b8 u8 = nb)) (h9 : Hid (RemN na nb t er b9 u9)) (g9 : Hid (bigI b9 u9 = t)) (h10 : Hid (NegN na a b10 u10)) (g10 : Hid (bigI b10 u10 = a)) (e1 : Hid (SameI a a true)) (h11 : Hid (OfN 0 0 b11 u11)) (g11 : Hid (bigI b11 u11 = 0)) (e2 : Hid (SameI s 0 true)) (h12 : Hid (NegN p np b12 u12)) (g12 : Hid (bigI b12 u12 = np)) (e3 : Hid (f = true → SameI q np true)) (h13 : Hid (NegN x nx b13 u13)) (g13 : Hid (bigI b13 u13 = nx)) (e4 : Hid (er = 0 → SameI y nx true)) (h14 : Hid (NegN r nr b14 u14)) (g14 : Hid (bigI b14 u14 = nr)) (e5 : Hid (er = 0 → SameI t nr true)) (her : Hid (er = 0 ∨ er = 4)) :
    Calls Try.prog 10 #[.agg #[.bool an, .slice A n c], .agg #[.bool bn, .slice C m d]] w fun e w' => e = .returned (.bool true) ∧ Plus w w' := by
  go_enter Try.func10, Try.ntmps10
  go_upto_region 5 with (first | (go_at_call 14; (with_reducible refine (first_c _).mono ?_); rintro e w1 ⟨rfl, ⟨y0, rfl⟩⟩) | (go_at_call 15; (with_reducible refine (few_c hm _).mono ?_); rintro e w1 ⟨rfl, ⟨y1, rfl⟩⟩) | (go_at_call 15; (with_reducible refine (few_c hm2 _).mono ?_); rintro e w1 ⟨rfl, ⟨y2, rfl⟩⟩))
  go_wp2_with fail
  with_reducible refine (neg_n hA h1 _ (ha.out.plus (by repeat' (first | exact Plus.refl _ | refine Plus.alloc ?_ _ | refine Plus.plus ?_ _ | refine Plus.drew ?_ | refine Plus.drewN ?_ _)))).mono ?_
  rintro e w1 ⟨A1, c1, rfl, a1, ⟨x1, rfl⟩⟩
  replace a1 := Lib.hid a1
  go_wp2_with fail
  with_reducible refine (add_n hA g1 h2 _ (ha.out.plus (by repeat' (first | exact Plus.refl _ | refine Plus.alloc ?_ _ | refine Plus.plus ?_ _ | refine Plus.drew ?_ | refine Plus.drewN ?_ _))) (a1.out.plus (by repeat' (first | exact Plus.refl _ | refine Plus.alloc ?_ _ | refine Plus.plus ?_ _ | refine Plus.drew ?_ | refine Plus.drewN ?_ _)))).mono ?_
  rintro e w1 ⟨A2, c2, rfl, a2, ⟨x2, rfl⟩⟩
  replace a2 := Lib.hid a2
  go_wp2_with fail
  with_reducible refine (mul_n hA hB h3 _ (ha.out.plus (by repeat' (first | exact Plus.refl _ | refine Plus.alloc ?_ _ | refine Plus.plus ?_ _ | refine Plus.drew ?_ | refine Plus.drewN ?_ _))) (hb.out.plus (by repeat' (first | exact Plus.refl _ | refine Plus.alloc ?_ _ | refine Plus.plus ?_ _ | refine Plus.drew ?_ | refine Plus.drewN ?_ _)))).mono ?_
  rintro e w1 ⟨A3, c3, rfl, a3, ⟨x3, rfl⟩⟩
  replace a3 := Lib.hid a3
  go_wp2_with fail
  with_reducible refine (mul_n g1 hB h4 _ (a1.out.plus (by repeat' (first | exact Plus.refl _ | refine Plus.alloc ?_ _ | refine Plus.plus ?_ _ | refine Plus.drew ?_ | refine Plus.drewN ?_ _))) (hb.out.plus (by repeat' (first | exact Plus.refl _ | refine Plus.alloc ?_ _ | refine Plus.plus ?_ _ | refine Plus.drew ?_ | refine Plus.drewN ?_ _)))).mono ?_
  rintro e w1 ⟨A4, c4, rfl, a4, ⟨x4, rfl⟩⟩
  replace a4 := Lib.hid a4
  go_wp2_with fail
  with_reducible refine (div_n hA hB h5 _ (ha.out.plus (by repeat' (first | exact Plus.refl _ | refine Plus.alloc ?_ _ | refine Plus.plus ?_ _ | refine Plus.drew ?_ | refine Plus.drewN ?_ _))) (hb.out.plus (by repeat' (first | exact Plus.refl _ | refine Plus.alloc ?_ _ | refine Plus.plus ?_ _ | refine Plus.drew ?_ | refine Plus.drewN ?_ _)))).mono ?_
  rintro e w1 ⟨A5, c5, rfl, a5, ⟨x5, rfl⟩⟩
  replace a5 := Lib.hid a5
  go_wp2_with fail
  with_reducible refine (div_n g1 hB h6 _ (a1.out.plus (by repeat' (first | exact Plus.refl _ | refine Plus.alloc ?_ _ | refine Plus.plus ?_ _ | refine Plus.drew ?_ | refine Plus.drewN ?_ _))) (hb.out.plus (by repeat' (first | exact Plus.refl _ | refine Plus.alloc ?_ _ | refine Plus.plus ?_ _ | refine Plus.drew ?_ | refine Plus.drewN ?_ _)))).mono ?_
  rintro e w1 ⟨A6, c6, rfl, a6, ⟨x6, rfl⟩⟩
  replace a6 := Lib.hid a6
  go_wp2_with fail
  with_reducible refine (rem_n hA hB h7 _ (ha.out.plus (by repeat' (first | exact Plus.refl _ | refine Plus.alloc ?_ _ | refine Plus.plus ?_ _ | refine Plus.drew ?_ | refine Plus.drewN ?_ _))) (hb.out.plus (by repeat' (first | exact Plus.refl _ | refine Plus.alloc ?_ _ | refine Plus.plus ?_ _ | refine Plus.drew ?_ | refine Plus.drewN ?_ _)))).mono ?_
  rintro e w1 ⟨A7, c7, rfl, a7, ⟨x7, rfl⟩⟩
  replace a7 := Lib.hid a7
  go_upto_region 12 with fail
  go_cut [5, 6, 8, 10, 12, 14, 16, 18, 19] (fun s5 s6 s8 s10 s12 s14 s16 s18 s19 wx => ∃ k5 k6 k8 k10 k12 k14 k16 k18 A1 c1 A2 c2 A3 c3 A4 c4 A5 c5 A6 c6 A7 c7 A9 c9, s5 = .pointer (some ⟨k5, 0, none⟩) ∧ s6 = .pointer (some ⟨k6, 0, none⟩) ∧ s8 = .pointer (some ⟨k8, 0, none⟩) ∧ s10 = .pointer (some ⟨k10, 0, none⟩) ∧ s12 = .pointer (some ⟨k12, 0, none⟩) ∧ s14 = .pointer (some ⟨k14, 0, none⟩) ∧ s16 = .pointer (some ⟨k16, 0, none⟩) ∧ s18 = .pointer (some ⟨k18, 0, none⟩) ∧ s19 = .int .i64 er ∧ Plus w wx ∧ BoxO wx w.heap.size an A n c ∧ BoxO wx (w.heap.size + 1) bn C m d ∧ BoxO wx k5 b1 A1 u1.length c1 ∧ BoxO wx k6 b2 A2 u2.length c2 ∧ BoxO wx k8 b3 A3 u3.length c3 ∧ BoxO wx k10 b4 A4 u4.length c4 ∧ BoxO wx k12 b5 A5 u5.length c5 ∧ BoxO wx k14 b6 A6 u6.length c6 ∧ BoxO wx k16 b7 A7 u7.length c7 ∧ BoxO wx k18 b9 A9 u9.length c9 ∧ Arg wx A1 u1 u1.length c1 ∧ Arg wx A2 u2 u2.length c2 ∧ Arg wx A3 u3 u3.length c3 ∧ Arg wx A4 u4 u4.length c4 ∧ Arg wx A5 u5 u5.length c5 ∧ Arg wx A6 u6 u6.length c6 ∧ Arg wx A7 u7 u7.length c7 ∧ Arg wx A9 u9 u9.length c9)
  case first =>
    as_aux_lemma =>
      go_region_held3 (fun w' => w'.cell? ⟨(w.heap.size + 1), 0, none⟩ = some (.bool bn) ∧ w'.cell? ⟨(w.heap.size + 1), 1, none⟩ = some (.slice C m d) ∧ w'.cell? ⟨(w.heap.size + 1 + 1 + y0.blocks.length + y1.blocks.length + y2.blocks.length + x1.blocks.length), 0, none⟩ = some (.bool b1) ∧ w'.cell? ⟨(w.heap.size + 1 + 1 + y0.blocks.length + y1.blocks.length + y2.blocks.length + x1.blocks.length), 1, none⟩ = some (.slice A1 u1.length c1)) (refine ⟨?_, ?_, ?_, ?_⟩ <;> simp [go_sem]) (first | (go_at_call 32; (with_reducible refine (neg_n hB h8 _ (hb.out.plus (by repeat' (first | exact Plus.refl _ | refine Plus.alloc ?_ _ | refine Plus.plus ?_ _ | refine Plus.drew ?_ | refine Plus.drewN ?_ _)))).mono ?_); rintro e w1 ⟨A8, c8, rfl, a8, ⟨x8, rfl⟩⟩; (try simp only [plus_drew] at a8); replace a8 := Lib.hid a8) | (go_at_call 26; (with_reducible refine (rem_n g1 g8 h9 _ (a1.out.plus (by repeat' (first | exact Plus.refl _ | refine Plus.alloc ?_ _ | refine Plus.plus ?_ _ | refine Plus.drew ?_ | refine Plus.drewN ?_ _))) (a8.out.plus (by repeat' (first | exact Plus.refl _ | refine Plus.alloc ?_ _ | refine Plus.plus ?_ _ | refine Plus.drew ?_ | refine Plus.drewN ?_ _)))).mono ?_); rintro e w1 ⟨A9, c9, rfl, a9, ⟨x9, rfl⟩⟩; (try simp only [plus_drew] at a9); replace a9 := Lib.hid a9))
      all_goals (go_wp2_with fail; go_meet)
      all_goals refine ⟨_, _, _, _, _, _, _, _, A1, c1, A2, c2, A3, c3, A4, c4, A5, c5, A6, c6, A7, c7, A9, c9, rfl, rfl, rfl, rfl, rfl, rfl, rfl, rfl, rfl, (by repeat' (first | exact Plus.refl _ | refine Plus.alloc ?_ _ | refine Plus.plus ?_ _ | refine Plus.drew ?_ | refine Plus.drewN ?_ _)), (by repeat' (first | (refine BoxO.new' ?_; (simp [go_sem]; done)) | refine BoxO.alloc ?_ _ | refine BoxO.grow ?_ _ | refine BoxO.drew ?_)), (by repeat' (first | (refine BoxO.new' ?_; (simp [go_sem]; done)) | refine BoxO.alloc ?_ _ | refine BoxO.grow ?_ _ | refine BoxO.drew ?_)), (by repeat' (first | (refine BoxO.new' ?_; (simp [go_sem]; done)) | refine BoxO.alloc ?_ _ | refine BoxO.grow ?_ _ | refine BoxO.drew ?_)), (by repeat' (first | (refine BoxO.new' ?_; (simp [go_sem]; done)) | refine BoxO.alloc ?_ _ | refine BoxO.grow ?_ _ | refine BoxO.drew ?_)), (by repeat' (first | (refine BoxO.new' ?_; (simp [go_sem]; done)) | refine BoxO.alloc ?_ _ | refine BoxO.grow ?_ _ | refine BoxO.drew ?_)), (by repeat' (first | (refine BoxO.new' ?_; (simp [go_sem]; done)) | refine BoxO.alloc ?_ _ | refine BoxO.grow ?_ _ | refine BoxO.drew ?_)), (by repeat' (first | (refine BoxO.new' ?_; (simp [go_sem]; done)) | refine BoxO.alloc ?_ _ | refine BoxO.grow ?_ _ | refine BoxO.drew ?_)), (by repeat' (first | (refine BoxO.new' ?_; (simp [go_sem]; done)) | refine BoxO.alloc ?_ _ | refine BoxO.grow ?_ _ | refine BoxO.drew ?_)), (by repeat' (first | (refine BoxO.new' ?_; (simp [go_sem]; done)) | refine BoxO.alloc ?_ _ | refine BoxO.grow ?_ _ | refine BoxO.drew ?_)), (by repeat' (first | (refine BoxO.new' ?_; (simp [go_sem]; done)) | refine BoxO.alloc ?_ _ | refine BoxO.grow ?_ _ | refine BoxO.drew ?_)), (by have q := a1.out; (try simp only [plus_drew] at q); exact q.later (by repeat' (first | (refine Later.of_alt ?_; (repeat' (first | exact Alt.refl _ | refine Alt.grow ?_ _ | refine Alt.drewL ?_ | refine Alt.drewR ?_ | refine Alt.box ?_ (isBox.mk _ _ _ _ _) (isBox.mk _ _ _ _ _) | refine Alt.alloc ?_ _)); done) | refine Later.alloc ?_ _ | refine Later.grow ?_ _ | refine Later.drew ?_))), (by have q := a2.out; (try simp only [plus_drew] at q); exact q.later (by repeat' (first | (refine Later.of_alt ?_; (repeat' (first | exact Alt.refl _ | refine Alt.grow ?_ _ | refine Alt.drewL ?_ | refine Alt.drewR ?_ | refine Alt.box ?_ (isBox.mk _ _ _ _ _) (isBox.mk _ _ _ _ _) | refine Alt.alloc ?_ _)); done) | refine Later.alloc ?_ _ | refine Later.grow ?_ _ | refine Later.drew ?_))), (by have q := a3.out; (try simp only [plus_drew] at q); exact q.later (by repeat' (first | (refine Later.of_alt ?_; (repeat' (first | exact Alt.refl _ | refine Alt.grow ?_ _ | refine Alt.drewL ?_ | refine Alt.drewR ?_ | refine Alt.box ?_ (isBox.mk _ _ _ _ _) (isBox.mk _ _ _ _ _) | refine Alt.alloc ?_ _)); done) | refine Later.alloc ?_ _ | refine Later.grow ?_ _ | refine Later.drew ?_))), (by have q := a4.out; (try simp only [plus_drew] at q); exact q.later (by repeat' (first | (refine Later.of_alt ?_; (repeat' (first | exact Alt.refl _ | refine Alt.grow ?_ _ | refine Alt.drewL ?_ | refine Alt.drewR ?_ | refine Alt.box ?_ (isBox.mk _ _ _ _ _) (isBox.mk _ _ _ _ _) | refine Alt.alloc ?_ _)); done) | refine Later.alloc ?_ _ | refine Later.grow ?_ _ | refine Later.drew ?_))), (by have q := a5.out; (try simp only [plus_drew] at q); exact q.later (by repeat' (first | (refine Later.of_alt ?_; (repeat' (first | exact Alt.refl _ | refine Alt.grow ?_ _ | refine Alt.drewL ?_ | refine Alt.drewR ?_ | refine Alt.box ?_ (isBox.mk _ _ _ _ _) (isBox.mk _ _ _ _ _) | refine Alt.alloc ?_ _)); done) | refine Later.alloc ?_ _ | refine Later.grow ?_ _ | refine Later.drew ?_))), (by have q := a6.out; (try simp only [plus_drew] at q); exact q.later (by repeat' (first | (refine Later.of_alt ?_; (repeat' (first | exact Alt.refl _ | refine Alt.grow ?_ _ | refine Alt.drewL ?_ | refine Alt.drewR ?_ | refine Alt.box ?_ (isBox.mk _ _ _ _ _) (isBox.mk _ _ _ _ _) | refine Alt.alloc ?_ _)); done) | refine Later.alloc ?_ _ | refine Later.grow ?_ _ | refine Later.drew ?_))), (by have q := a7.out; (try simp only [plus_drew] at q); exact q.later (by repeat' (first | (refine Later.of_alt ?_; (repeat' (first | exact Alt.refl _ | refine Alt.grow ?_ _ | refine Alt.drewL ?_ | refine Alt.drewR ?_ | refine Alt.box ?_ (isBox.mk _ _ _ _ _) (isBox.mk _ _ _ _ _) | refine Alt.alloc ?_ _)); done) | refine Later.alloc ?_ _ | refine Later.grow ?_ _ | refine Later.drew ?_))), (by have q := a9.out; (try simp only [plus_drew] at q); exact q.later (by repeat' (first | (refine Later.of_alt ?_; (repeat' (first | exact Alt.refl _ | refine Alt.grow ?_ _ | refine Alt.drewL ?_ | refine Alt.drewR ?_ | refine Alt.box ?_ (isBox.mk _ _ _ _ _) (isBox.mk _ _ _ _ _) | refine Alt.alloc ?_ _)); done) | refine Later.alloc ?_ _ | refine Later.grow ?_ _ | refine Later.drew ?_)))⟩
  case rest =>
    clear a1 a2 a3 a4 a5 a6 a7
    obtain ⟨k5, k6, k8, k10, k12, k14, k16, k18, A1, c1, A2, c2, A3, c3, A4, c4, A5, c5, A6, c6, A7, c7, A9, c9, rfl, rfl, rfl, rfl, rfl, rfl, rfl, rfl, rfl, hPw, hb2, hb3, hb5, hb6, hb8, hb10, hb12, hb14, hb16, hb18, hL1, hL2, hL3, hL4, hL5, hL6, hL7, hL9⟩ := hcut
    have HP2 := Lib.hid hPw
    have HAw := Lib.hid (ha.out.plus hPw)
    have H1 := Lib.hid hL1
    have H2 := Lib.hid hL2
    have H3 := Lib.hid hL3
    have H4 := Lib.hid hL4
    have H5 := Lib.hid hL5
    have H6 := Lib.hid hL6
    have H7 := Lib.hid hL7
    have H9 := Lib.hid hL9
    obtain ⟨z2_0, z2_1, z2_2, z2_3⟩ := hb2.cells
    haveI : Old w.heap.size wc := ⟨hb2.lt⟩
    obtain ⟨z3_0, z3_1, z3_2, z3_3⟩ := hb3.cells
    haveI : Old (w.heap.size + 1) wc := ⟨hb3.lt⟩
    obtain ⟨z5_0, z5_1, z5_2, z5_3⟩ := hb5.cells
    haveI : Old k5 wc := ⟨hb5.lt⟩
    obtain ⟨z6_0, z6_1, z6_2, z6_3⟩ := hb6.cells
    haveI : Old k6 wc := ⟨hb6.lt⟩
    obtain ⟨z8_0, z8_1, z8_2, z8_3⟩ := hb8.cells
    haveI : Old k8 wc := ⟨hb8.lt⟩
    obtain ⟨z10_0, z10_1, z10_2, z10_3⟩ := hb10.cells
    haveI : Old k10 wc := ⟨hb10.lt⟩
    obtain ⟨z12_0, z12_1, z12_2, z12_3⟩ := hb12.cells
    haveI : Old k12 wc := ⟨hb12.lt⟩
    obtain ⟨z14_0, z14_1, z14_2, z14_3⟩ := hb14.cells
    haveI : Old k14 wc := ⟨hb14.lt⟩
    obtain ⟨z16_0, z16_1, z16_2, z16_3⟩ := hb16.cells
    haveI : Old k16 wc := ⟨hb16.lt⟩
    obtain ⟨z18_0, z18_1, z18_2, z18_3⟩ := hb18.cells
    haveI : Old k18 wc := ⟨hb18.lt⟩
    clear hPw hL1 hL2 hL3 hL4 hL5 hL6 hL7 hL9 hb2 hb3 hb5 hb6 hb8 hb10 hb12 hb14 hb16 hb18 ha hb
    cases f
    · rcases her.out with hz | hz
      · as_aux_lemma =>
          clear e3
          subst hz
          replace e4 : Hid (SameI y nx true) := Lib.hid (e4.out rfl)
          replace e5 : Hid (SameI t nr true) := Lib.hid (e5.out rfl)
          go_upto_region 13 with fail
          refine wp_region_noPanic ?_
          refine wp_region_held_drew (S := (fun w' => w'.cell? ⟨w.heap.size, 0, none⟩ = some (.bool an) ∧ w'.cell? ⟨w.heap.size, 1, none⟩ = some (.slice A n c) ∧ w'.cell? ⟨k5, 0, none⟩ = some (.bool b1) ∧ w'.cell? ⟨k5, 1, none⟩ = some (.slice A1 u1.length c1) ∧ w'.cell? ⟨k6, 0, none⟩ = some (.bool b2) ∧ w'.cell? ⟨k6, 1, none⟩ = some (.slice A2 u2.length c2) ∧ w'.cell? ⟨k8, 0, none⟩ = some (.bool b3) ∧ w'.cell? ⟨k8, 1, none⟩ = some (.slice A3 u3.length c3) ∧ w'.cell? ⟨k10, 0, none⟩ = some (.bool b4) ∧ w'.cell? ⟨k10, 1, none⟩ = some (.slice A4 u4.length c4) ∧ w'.cell? ⟨k12, 0, none⟩ = some (.bool b5) ∧ w'.cell? ⟨k12, 1, none⟩ = some (.slice A5 u5.length c5) ∧ w'.cell? ⟨k14, 0, none⟩ = some (.bool b6) ∧ w'.cell? ⟨k14, 1, none⟩ = some (.slice A6 u6.length c6) ∧ w'.cell? ⟨k16, 0, none⟩ = some (.bool b7) ∧ w'.cell? ⟨k16, 1, none⟩ = some (.slice A7 u7.length c7) ∧ w'.cell? ⟨k18, 0, none⟩ = some (.bool b9) ∧ w'.cell? ⟨k18, 1, none⟩ = some (.slice A9 u9.length c9))) (by kernel_rfl) (by (refine ⟨?_, ?_, ?_, ?_, ?_, ?_, ?_, ?_, ?_, ?_, ?_, ?_, ?_, ?_, ?_, ?_, ?_, ?_⟩ <;> simp [go_sem, z2_0, z2_1, z5_0, z5_1, z6_0, z6_1, z8_0, z8_1, z10_0, z10_1, z12_0, z12_1, z14_0, z14_1, z16_0, z16_1, z18_0, z18_1])) (fun hHeld => ?_)
          refine wpAnyH_ready (rs := [0]) (by kernel_rfl) (by simp) ?_
          refine AllReadyH.cons (o := { dst := some 76, op := Go.Op.call { callee := Go.Callee.value (Go.Operand.func 14), args := #[], argTypes := #[] }, type := 4, pos := "extra.go:40", after := #[], guard := none }) rfl (fun K hK => ?_) AllReadyH.nil
          go_simp
          (with_reducible refine (first_c _).mono ?_); rintro e w1 ⟨rfl, ⟨z0, rfl⟩⟩
          go_wp2_with fail
          refine hK.out _ _ (by (try dsimp only); (refine ⟨?_, ?_, ?_, ?_, ?_, ?_, ?_, ?_, ?_, ?_, ?_, ?_, ?_, ?_, ?_, ?_, ?_, ?_⟩ <;> simp [go_sem, z2_0, z2_1, z5_0, z5_1, z6_0, z6_1, z8_0, z8_1, z10_0, z10_1, z12_0, z12_1, z14_0, z14_1, z16_0, z16_1, z18_0, z18_1])) (fun hHeld1 => ?_)
          clear hK K hHeld
          try simp only [Act.put, List.setIfInBounds_toArray, List.set_cons_zero, List.set_cons_succ]
          refine wpAnyH_take (i := 1) (oi := { dst := some 77, op := Go.Op.move (Go.Operand.tmp 76), type := 4, pos := "extra.go:40", after := #[{ on := 0, ground := Go.Ground.data }, { on := 0, ground := Go.Ground.chain }], guard := none }) (v := ?v1301_1) rfl (by kernel_rfl) (by kernel_rfl) (by kernel_rfl) (fun _ _ _ h => h) (Or.inl ⟨by rfl, ?hy1301_1⟩) hHeld1 ?_
          case hy1301_1 => (intro w hSw; (try dsimp only at hSw); go_simp; first | done | with_reducible rfl)
          try simp only [Act.put, List.setIfInBounds_toArray, List.set_cons_zero, List.set_cons_succ]
          refine wpAnyH_take (i := 2) (oi := { dst := some 78, op := Go.Op.load 24 (Go.Operand.tmp 5), type := 24, pos := "extra.go:40", after := #[{ on := 1, ground := Go.Ground.guard }], guard := some (1, true) }) (v := ?v1301_2) rfl (by kernel_rfl) (by kernel_rfl) (by kernel_rfl) (fun _ _ _ h => h) (Or.inl ⟨by rfl, ?hy1301_2⟩) hHeld1 ?_
          case hy1301_2 => (intro w hSw; (try dsimp only at hSw); go_simp; first | done | with_reducible rfl)
          try simp only [Act.put, List.setIfInBounds_toArray, List.set_cons_zero, List.set_cons_succ]
          refine wpAnyH_take (i := 4) (oi := { dst := some 80, op := Go.Op.load 24 (Go.Operand.tmp 2), type := 24, pos := "extra.go:40", after := #[{ on := 1, ground := Go.Ground.guard }], guard := some (1, true) }) (v := ?v1301_4) rfl (by kernel_rfl) (by kernel_rfl) (by kernel_rfl) (fun _ _ _ h => h) (Or.inl ⟨by rfl, ?hy1301_4⟩) hHeld1 ?_
          case hy1301_4 => (intro w hSw; (try dsimp only at hSw); go_simp; first | done | with_reducible rfl)
          try simp only [Act.put, List.setIfInBounds_toArray, List.set_cons_zero, List.set_cons_succ]
          refine wpAnyH_ready (rs := [3]) (by kernel_rfl) (by simp) ?_
          refine AllReadyH.cons (o := { dst := some 79, op := Go.Op.call { callee := Go.Callee.value (Go.Operand.func 32), args := #[Go.Operand.tmp 78], argTypes := #[24] }, type := 24, pos := "extra.go:40", after := #[{ on := 2, ground := Go.Ground.data }, { on := 1, ground := Go.Ground.chain }, { on := 1, ground := Go.Ground.guard }], guard := some (1, true) }) rfl (fun K hK => ?_) AllReadyH.nil
          go_simp
          (with_reducible refine (neg_n g1 h10 _ (H1.out.plus (by repeat' (first | exact Plus.refl _ | refine Plus.alloc ?_ _ | refine Plus.plus ?_ _ | refine Plus.drew ?_ | refine Plus.drewN ?_ _)))).mono ?_); rintro e w1 ⟨A10, c10, rfl, a10, ⟨x10, rfl⟩⟩; (try simp only [plus_drew] at a10); replace a10 := Lib.hid a10
          go_wp2_with fail
          refine hK.out _ _ (by (try dsimp only); (refine ⟨?_, ?_, ?_, ?_, ?_, ?_, ?_, ?_, ?_, ?_, ?_, ?_, ?_, ?_, ?_, ?_, ?_, ?_⟩ <;> simp [go_sem, z2_0, z2_1, z5_0, z5_1, z6_0, z6_1, z8_0, z8_1, z10_0, z10_1, z12_0, z12_1, z14_0, z14_1, z16_0, z16_1, z18_0, z18_1])) (fun hHeld2 => ?_)
          clear hK K hHeld1
          try simp only [Act.put, List.setIfInBounds_toArray, List.set_cons_zero, List.set_cons_succ]
          refine wpAnyH_ready (rs := [5]) (by kernel_rfl) (by simp) ?_
          refine AllReadyH.cons (o := { dst := some 81, op := Go.Op.call { callee := Go.Callee.value (Go.Operand.func 30), args := #[Go.Operand.tmp 79, Go.Operand.tmp 80], argTypes := #[24, 24] }, type := 4, pos := "extra.go:40", after := #[{ on := 3, ground := Go.Ground.data }, { on := 4, ground := Go.Ground.data }, { on := 3, ground := Go.Ground.chain }, { on := 1, ground := Go.Ground.guard }], guard := some (1, true) }) rfl (fun K hK => ?_) AllReadyH.nil
          go_simp
          (with_reducible refine (same_o g10 hA e1 _ (a10.out.plus (by repeat' (first | exact Plus.refl _ | refine Plus.alloc ?_ _ | refine Plus.plus ?_ _ | refine Plus.drew ?_ | refine Plus.drewN ?_ _))) (HAw.out.plus (by repeat' (first | exact Plus.refl _ | refine Plus.alloc ?_ _ | refine Plus.plus ?_ _ | refine Plus.drew ?_ | refine Plus.drewN ?_ _)))).mono ?_); rintro e w1 ⟨rfl, ⟨z1, rfl⟩⟩
          go_wp2_with fail
          refine hK.out _ _ (by (try dsimp only); (refine ⟨?_, ?_, ?_, ?_, ?_, ?_, ?_, ?_, ?_, ?_, ?_, ?_, ?_, ?_, ?_, ?_, ?_, ?_⟩ <;> simp [go_sem, z2_0, z2_1, z5_0, z5_1, z6_0, z6_1, z8_0, z8_1, z10_0, z10_1, z12_0, z12_1, z14_0, z14_1, z16_0, z16_1, z18_0, z18_1])) (fun hHeld3 => ?_)
          clear hK K hHeld2
          try simp only [Act.put, List.setIfInBounds_toArray, List.set_cons_zero, List.set_cons_succ]
          refine wpAnyH_take (i := 6) (oi := { dst := some 82, op := Go.Op.pick (Go.Operand.tmp 77) (Go.Operand.tmp 81) (Go.Operand.const (Go.Value.bool false)), type := 4, pos := "extra.go:40", after := #[{ on := 1, ground := Go.Ground.data }, { on := 5, ground := Go.Ground.data }], guard := none }) (v := ?v1301_6) rfl (by kernel_rfl) (by kernel_rfl) (by kernel_rfl) (fun _ _ _ h => h) (Or.inl ⟨by rfl, ?hy1301_6⟩) hHeld3 ?_
          case hy1301_6 => (intro w hSw; (try dsimp only at hSw); go_simp; first | done | with_reducible rfl)
          try simp only [Act.put, List.setIfInBounds_toArray, List.set_cons_zero, List.set_cons_succ]
          refine wpAnyH_take (i := 7) (oi := { dst := some 83, op := Go.Op.move (Go.Operand.tmp 82), type := 4, pos := "extra.go:40", after := #[{ on := 6, ground := Go.Ground.data }, { on := 5, ground := Go.Ground.chain }], guard := none }) (v := ?v1301_7) rfl (by kernel_rfl) (by kernel_rfl) (by kernel_rfl) (fun _ _ _ h => h) (Or.inl ⟨by rfl, ?hy1301_7⟩) hHeld3 ?_
          case hy1301_7 => (intro w hSw; (try dsimp only at hSw); go_simp; first | done | with_reducible rfl)
          try simp only [Act.put, List.setIfInBounds_toArray, List.set_cons_zero, List.set_cons_succ]
          refine wpAnyH_take (i := 8) (oi := { dst := some 84, op := Go.Op.move (Go.Operand.tmp 7), type := 4, pos := "extra.go:40", after := #[{ on := 7, ground := Go.Ground.guard }], guard := some (7, true) }) (v := ?v1301_8) rfl (by kernel_rfl) (by kernel_rfl) (by kernel_rfl) (fun _ _ _ h => h) (Or.inl ⟨by rfl, ?hy1301_8⟩) hHeld3 ?_
          case hy1301_8 => (intro w hSw; (try dsimp only at hSw); go_simp; first | done | with_reducible rfl)
          try simp only [Act.put, List.setIfInBounds_toArray, List.set_cons_zero, List.set_cons_succ]
          refine wpAnyH_take (i := 9) (oi := { dst := some 85, op := Go.Op.pick (Go.Operand.tmp 83) (Go.Operand.tmp 84) (Go.Operand.const (Go.Value.bool false)), type := 4, pos := "extra.go:40", after := #[{ on := 7, ground := Go.Ground.data }, { on := 8, ground := Go.Ground.data }], guard := none }) (v := ?v1301_9) rfl (by kernel_rfl) (by kernel_rfl) (by kernel_rfl) (fun _ _ _ h => h) (Or.inl ⟨by rfl, ?hy1301_9⟩) hHeld3 ?_
          case hy1301_9 => (intro w hSw; (try dsimp only at hSw); go_simp; first | done | with_reducible rfl)
          try simp only [Act.put, List.setIfInBounds_toArray, List.set_cons_zero, List.set_cons_succ]
          refine wpAnyH_take (i := 10) (oi := { dst := some 86, op := Go.Op.move (Go.Operand.tmp 85), type := 4, pos := "extra.go:40", after := #[{ on := 9, ground := Go.Ground.data }, { on := 7, ground := Go.Ground.chain }], guard := none }) (v := ?v1301_10) rfl (by kernel_rfl) (by kernel_rfl) (by kernel_rfl) (fun _ _ _ h => h) (Or.inl ⟨by rfl, ?hy1301_10⟩) hHeld3 ?_
          case hy1301_10 => (intro w hSw; (try dsimp only at hSw); go_simp; first | done | with_reducible rfl)
          try simp only [Act.put, List.setIfInBounds_toArray, List.set_cons_zero, List.set_cons_succ]
          refine wpAnyH_take (i := 11) (oi := { dst := some 87, op := Go.Op.load 24 (Go.Operand.tmp 6), type := 24, pos := "extra.go:40", after := #[{ on := 10, ground := Go.Ground.guard }], guard := some (10, true) }) (v := ?v1301_11) rfl (by kernel_rfl) (by kernel_rfl) (by kernel_rfl) (fun _ _ _ h => h) (Or.inl ⟨by rfl, ?hy1301_11⟩) hHeld3 ?_
          case hy1301_11 => (intro w hSw; (try dsimp only at hSw); go_simp; first | done | with_reducible rfl)
          try simp only [Act.put, List.setIfInBounds_toArray, List.set_cons_zero, List.set_cons_succ]
          refine wpAnyH_ready (rs := [12]) (by kernel_rfl) (by simp) ?_
          refine AllReadyH.cons (o := { dst := some 88, op := Go.Op.call { callee := Go.Callee.value (Go.Operand.func 44), args := #[Go.Operand.const (Go.Value.int Go.IntKind.i64 0)], argTypes := #[3] }, type := 24, pos := "extra.go:40", after := #[{ on := 10, ground := Go.Ground.chain }, { on := 10, ground := Go.Ground.guard }], guard := some (10, true) }) rfl (fun K hK => ?_) AllReadyH.nil
          go_simp
          (with_reducible refine (of_n h11 _).mono ?_); rintro e w1 ⟨A11, c11, rfl, a11, ⟨x11, rfl⟩⟩; (try simp only [plus_drew] at a11); replace a11 := Lib.hid a11
          go_wp2_with fail
          refine hK.out _ _ (by (try dsimp only); (refine ⟨?_, ?_, ?_, ?_, ?_, ?_, ?_, ?_, ?_, ?_, ?_, ?_, ?_, ?_, ?_, ?_, ?_, ?_⟩ <;> simp [go_sem, z2_0, z2_1, z5_0, z5_1, z6_0, z6_1, z8_0, z8_1, z10_0, z10_1, z12_0, z12_1, z14_0, z14_1, z16_0, z16_1, z18_0, z18_1])) (fun hHeld4 => ?_)
          clear hK K hHeld3
          try simp only [Act.put, List.setIfInBounds_toArray, List.set_cons_zero, List.set_cons_succ]
          refine wpAnyH_ready (rs := [13]) (by kernel_rfl) (by simp) ?_
          refine AllReadyH.cons (o := { dst := some 89, op := Go.Op.call { callee := Go.Callee.value (Go.Operand.func 30), args := #[Go.Operand.tmp 87, Go.Operand.tmp 88], argTypes := #[24, 24] }, type := 4, pos := "extra.go:40", after := #[{ on := 11, ground := Go.Ground.data }, { on := 12, ground := Go.Ground.data }, { on := 12, ground := Go.Ground.chain }, { on := 10, ground := Go.Ground.guard }], guard := some (10, true) }) rfl (fun K hK => ?_) AllReadyH.nil
          go_simp
          (with_reducible refine (same_o g2 g11 e2 _ (H2.out.plus (by repeat' (first | exact Plus.refl _ | refine Plus.alloc ?_ _ | refine Plus.plus ?_ _ | refine Plus.drew ?_ | refine Plus.drewN ?_ _))) (a11.out.plus (by repeat' (first | exact Plus.refl _ | refine Plus.alloc ?_ _ | refine Plus.plus ?_ _ | refine Plus.drew ?_ | refine Plus.drewN ?_ _)))).mono ?_); rintro e w1 ⟨rfl, ⟨z2, rfl⟩⟩
          go_wp2_with fail
          refine hK.out _ _ (by (try dsimp only); (refine ⟨?_, ?_, ?_, ?_, ?_, ?_, ?_, ?_, ?_, ?_, ?_, ?_, ?_, ?_, ?_, ?_, ?_, ?_⟩ <;> simp [go_sem, z2_0, z2_1, z5_0, z5_1, z6_0, z6_1, z8_0, z8_1, z10_0, z10_1, z12_0, z12_1, z14_0, z14_1, z16_0, z16_1, z18_0, z18_1])) (fun hHeld5 => ?_)
          clear hK K hHeld4
          try simp only [Act.put, List.setIfInBounds_toArray, List.set_cons_zero, List.set_cons_succ]
          refine wpAnyH_take (i := 14) (oi := { dst := some 90, op := Go.Op.pick (Go.Operand.tmp 86) (Go.Operand.tmp 89) (Go.Operand.const (Go.Value.bool false)), type := 4, pos := "extra.go:40", after := #[{ on := 10, ground := Go.Ground.data }, { on := 13, ground := Go.Ground.data }], guard := none }) (v := ?v1301_14) rfl (by kernel_rfl) (by kernel_rfl) (by kernel_rfl) (fun _ _ _ h => h) (Or.inl ⟨by rfl, ?hy1301_14⟩) hHeld5 ?_
          case hy1301_14 => (intro w hSw; (try dsimp only at hSw); go_simp; first | done | with_reducible rfl)
          try simp only [Act.put, List.setIfInBounds_toArray, List.set_cons_zero, List.set_cons_succ]
          refine wpAnyH_take (i := 15) (oi := { dst := some 91, op := Go.Op.move (Go.Operand.tmp 90), type := 4, pos := "extra.go:40", after := #[{ on := 14, ground := Go.Ground.data }, { on := 13, ground := Go.Ground.chain }], guard := none }) (v := ?v1301_15) rfl (by kernel_rfl) (by kernel_rfl) (by kernel_rfl) (fun _ _ _ h => h) (Or.inl ⟨by rfl, ?hy1301_15⟩) hHeld5 ?_
          case hy1301_15 => (intro w hSw; (try dsimp only at hSw); go_simp; first | done | with_reducible rfl)
          try simp only [Act.put, List.setIfInBounds_toArray, List.set_cons_zero, List.set_cons_succ]
          refine wpAnyH_take (i := 16) (oi := { dst := some 92, op := Go.Op.move (Go.Operand.tmp 9), type := 4, pos := "extra.go:40", after := #[{ on := 15, ground := Go.Ground.guard }], guard := some (15, true) }) (v := ?v1301_16) rfl (by kernel_rfl) (by kernel_rfl) (by kernel_rfl) (fun _ _ _ h => h) (Or.inl ⟨by rfl, ?hy1301_16⟩) hHeld5 ?_
          case hy1301_16 => (intro w hSw; (try dsimp only at hSw); go_simp; first | done | with_reducible rfl)
          try simp only [Act.put, List.setIfInBounds_toArray, List.set_cons_zero, List.set_cons_succ]
          refine wpAnyH_take (i := 17) (oi := { dst := some 93, op := Go.Op.move (Go.Operand.tmp 11), type := 4, pos := "extra.go:40", after := #[{ on := 15, ground := Go.Ground.guard }], guard := some (15, true) }) (v := ?v1301_17) rfl (by kernel_rfl) (by kernel_rfl) (by kernel_rfl) (fun _ _ _ h => h) (Or.inl ⟨by rfl, ?hy1301_17⟩) hHeld5 ?_
          case hy1301_17 => (intro w hSw; (try dsimp only at hSw); go_simp; first | done | with_reducible rfl)
          try simp only [Act.put, List.setIfInBounds_toArray, List.set_cons_zero, List.set_cons_succ]
          refine wpAnyH_take (i := 18) (oi := { dst := some 94, op := Go.Op.binOp Go.BinOp.eql 4 (Go.Operand.tmp 92) (Go.Operand.tmp 93) 4, type := 4, pos := "extra.go:40", after := #[{ on := 16, ground := Go.Ground.data }, { on := 17, ground := Go.Ground.data }, { on := 15, ground := Go.Ground.guard }], guard := some (15, true) }) (v := ?v1301_18) rfl (by kernel_rfl) (by kernel_rfl) (by kernel_rfl) (fun _ _ _ h => h) (Or.inl ⟨by rfl, ?hy1301_18⟩) hHeld5 ?_
          case hy1301_18 => (intro w hSw; (try dsimp only at hSw); go_simp; first | done | with_reducible rfl)
          try simp only [Act.put, List.setIfInBounds_toArray, List.set_cons_zero, List.set_cons_succ]
          refine wpAnyH_take (i := 19) (oi := { dst := some 95, op := Go.Op.pick (Go.Operand.tmp 91) (Go.Operand.tmp 94) (Go.Operand.const (Go.Value.bool false)), type := 4, pos := "extra.go:40", after := #[{ on := 15, ground := Go.Ground.data }, { on := 18, ground := Go.Ground.data }], guard := none }) (v := ?v1301_19) rfl (by kernel_rfl) (by kernel_rfl) (by kernel_rfl) (fun _ _ _ h => h) (Or.inl ⟨by rfl, ?hy1301_19⟩) hHeld5 ?_
          case hy1301_19 => (intro w hSw; (try dsimp only at hSw); go_simp; first | done | with_reducible rfl)
          try simp only [Act.put, List.setIfInBounds_toArray, List.set_cons_zero, List.set_cons_succ]
          refine wpAnyH_take (i := 20) (oi := { dst := some 96, op := Go.Op.move (Go.Operand.tmp 95), type := 4, pos := "extra.go:40", after := #[{ on := 19, ground := Go.Ground.data }, { on := 15, ground := Go.Ground.chain }], guard := none }) (v := ?v1301_20) rfl (by kernel_rfl) (by kernel_rfl) (by kernel_rfl) (fun _ _ _ h => h) (Or.inl ⟨by rfl, ?hy1301_20⟩) hHeld5 ?_
          case hy1301_20 => (intro w hSw; (try dsimp only at hSw); go_simp; first | done | with_reducible rfl)
          try simp only [Act.put, List.setIfInBounds_toArray, List.set_cons_zero, List.set_cons_succ]
          refine wpAnyH_take (i := 21) (oi := { dst := some 97, op := Go.Op.move (Go.Operand.tmp 9), type := 4, pos := "extra.go:40", after := #[{ on := 20, ground := Go.Ground.guard }], guard := some (20, true) }) (v := ?v1301_21) rfl (by kernel_rfl) (by kernel_rfl) (by kernel_rfl) (fun _ _ _ h => h) (Or.inl ⟨by rfl, ?hy1301_21⟩) hHeld5 ?_
          case hy1301_21 => (intro w hSw; (try dsimp only at hSw); go_simp; first | done | with_reducible rfl)
          try simp only [Act.put, List.setIfInBounds_toArray, List.set_cons_zero, List.set_cons_succ]
          refine wpAnyH_take (i := 22) (oi := { dst := some 98, op := Go.Op.unOp Go.UnOp.not 4 (Go.Operand.tmp 97), type := 4, pos := "extra.go:40", after := #[{ on := 21, ground := Go.Ground.data }, { on := 20, ground := Go.Ground.guard }], guard := some (20, true) }) (v := ?v1301_22) rfl (by kernel_rfl) (by kernel_rfl) (by kernel_rfl) (fun _ _ _ h => h) (Or.inl ⟨by rfl, ?hy1301_22⟩) hHeld5 ?_
          case hy1301_22 => (intro w hSw; (try dsimp only at hSw); go_simp; first | done | with_reducible rfl)
          try simp only [Act.put, List.setIfInBounds_toArray, List.set_cons_zero, List.set_cons_succ]
          refine wpAnyH_take (i := 23) (oi := { dst := some 99, op := Go.Op.move (Go.Operand.tmp 98), type := 4, pos := "extra.go:40", after := #[{ on := 22, ground := Go.Ground.data }, { on := 20, ground := Go.Ground.chain }, { on := 20, ground := Go.Ground.guard }], guard := some (20, true) }) (v := ?v1301_23) rfl (by kernel_rfl) (by kernel_rfl) (by kernel_rfl) (fun _ _ _ h => h) (Or.inl ⟨by rfl, ?hy1301_23⟩) hHeld5 ?_
          case hy1301_23 => (intro w hSw; (try dsimp only at hSw); go_simp; first | done | with_reducible rfl)
          try simp only [Act.put, List.setIfInBounds_toArray, List.set_cons_zero, List.set_cons_succ]
          refine wpAnyH_take (i := 24) (oi := { dst := some 100, op := Go.Op.load 24 (Go.Operand.tmp 10), type := 24, pos := "extra.go:40", after := #[{ on := 23, ground := Go.Ground.guard }], guard := some (23, false) }) (v := undef) rfl (by kernel_rfl) (by kernel_rfl) (by kernel_rfl) (fun _ _ _ h => h) (Or.inr ⟨by rfl, rfl⟩) hHeld5 ?_
          try simp only [Act.put, List.setIfInBounds_toArray, List.set_cons_zero, List.set_cons_succ]
          refine wpAnyH_take (i := 25) (oi := { dst := some 101, op := Go.Op.load 24 (Go.Operand.tmp 8), type := 24, pos := "extra.go:40", after := #[{ on := 23, ground := Go.Ground.guard }], guard := some (23, false) }) (v := undef) rfl (by kernel_rfl) (by kernel_rfl) (by kernel_rfl) (fun _ _ _ h => h) (Or.inr ⟨by rfl, rfl⟩) hHeld5 ?_
          try simp only [Act.put, List.setIfInBounds_toArray, List.set_cons_zero, List.set_cons_succ]
          refine wpAnyH_take (i := 26) (oi := { dst := some 102, op := Go.Op.call { callee := Go.Callee.value (Go.Operand.func 32), args := #[Go.Operand.tmp 101], argTypes := #[24] }, type := 24, pos := "extra.go:40", after := #[{ on := 25, ground := Go.Ground.data }, { on := 23, ground := Go.Ground.chain }, { on := 23, ground := Go.Ground.guard }], guard := some (23, false) }) (v := undef) rfl (by kernel_rfl) (by kernel_rfl) (by kernel_rfl) (fun _ _ _ h => h) (Or.inr ⟨by rfl, rfl⟩) hHeld5 ?_
          try simp only [Act.put, List.setIfInBounds_toArray, List.set_cons_zero, List.set_cons_succ]
          refine wpAnyH_take (i := 27) (oi := { dst := some 103, op := Go.Op.call { callee := Go.Callee.value (Go.Operand.func 30), args := #[Go.Operand.tmp 100, Go.Operand.tmp 102], argTypes := #[24, 24] }, type := 4, pos := "extra.go:40", after := #[{ on := 24, ground := Go.Ground.data }, { on := 26, ground := Go.Ground.data }, { on := 26, ground := Go.Ground.chain }, { on := 23, ground := Go.Ground.guard }], guard := some (23, false) }) (v := undef) rfl (by kernel_rfl) (by kernel_rfl) (by kernel_rfl) (fun _ _ _ h => h) (Or.inr ⟨by rfl, rfl⟩) hHeld5 ?_
          try simp only [Act.put, List.setIfInBounds_toArray, List.set_cons_zero, List.set_cons_succ]
          refine wpAnyH_take (i := 28) (oi := { dst := some 104, op := Go.Op.pick (Go.Operand.tmp 99) (Go.Operand.const (Go.Value.bool true)) (Go.Operand.tmp 103), type := 4, pos := "extra.go:40", after := #[{ on := 23, ground := Go.Ground.data }, { on := 27, ground := Go.Ground.data }, { on := 20, ground := Go.Ground.guard }], guard := some (20, true) }) (v := ?v1301_28) rfl (by kernel_rfl) (by kernel_rfl) (by kernel_rfl) (fun _ _ _ h => h) (Or.inl ⟨by rfl, ?hy1301_28⟩) hHeld5 ?_
          case hy1301_28 => (intro w hSw; (try dsimp only at hSw); go_simp; first | done | with_reducible rfl)
          try simp only [Act.put, List.setIfInBounds_toArray, List.set_cons_zero, List.set_cons_succ]
          refine wpAnyH_take (i := 29) (oi := { dst := some 105, op := Go.Op.pick (Go.Operand.tmp 96) (Go.Operand.tmp 104) (Go.Operand.const (Go.Value.bool false)), type := 4, pos := "extra.go:40", after := #[{ on := 20, ground := Go.Ground.data }, { on := 28, ground := Go.Ground.data }], guard := none }) (v := ?v1301_29) rfl (by kernel_rfl) (by kernel_rfl) (by kernel_rfl) (fun _ _ _ h => h) (Or.inl ⟨by rfl, ?hy1301_29⟩) hHeld5 ?_
          case hy1301_29 => (intro w hSw; (try dsimp only at hSw); go_simp; first | done | with_reducible rfl)
          try simp only [Act.put, List.setIfInBounds_toArray, List.set_cons_zero, List.set_cons_succ]
          refine wpAnyH_take (i := 30) (oi := { dst := some 106, op := Go.Op.move (Go.Operand.tmp 105), type := 4, pos := "extra.go:40", after := #[{ on := 29, ground := Go.Ground.data }, { on := 27, ground := Go.Ground.chain }], guard := none }) (v := ?v1301_30) rfl (by kernel_rfl) (by kernel_rfl) (by kernel_rfl) (fun _ _ _ h => h) (Or.inl ⟨by rfl, ?hy1301_30⟩) hHeld5 ?_
          case hy1301_30 => (intro w hSw; (try dsimp only at hSw); go_simp; first | done | with_reducible rfl)
          try simp only [Act.put, List.setIfInBounds_toArray, List.set_cons_zero, List.set_cons_succ]
          refine wpAnyH_take (i := 31) (oi := { dst := some 107, op := Go.Op.move (Go.Operand.tmp 13), type := 31, pos := "extra.go:40", after := #[{ on := 30, ground := Go.Ground.guard }], guard := some (30, true) }) (v := ?v1301_31) rfl (by kernel_rfl) (by kernel_rfl) (by kernel_rfl) (fun _ _ _ h => h) (Or.inl ⟨by rfl, ?hy1301_31⟩) hHeld5 ?_
          case hy1301_31 => (intro w hSw; (try dsimp only at hSw); go_simp; first | done | with_reducible rfl)
          try simp only [Act.put, List.setIfInBounds_toArray, List.set_cons_zero, List.set_cons_succ]
          refine wpAnyH_take (i := 32) (oi := { dst := some 108, op := Go.Op.move (Go.Operand.tmp 15), type := 31, pos := "extra.go:40", after := #[{ on := 30, ground := Go.Ground.guard }], guard := some (30, true) }) (v := ?v1301_32) rfl (by kernel_rfl) (by kernel_rfl) (by kernel_rfl) (fun _ _ _ h => h) (Or.inl ⟨by rfl, ?hy1301_32⟩) hHeld5 ?_
          case hy1301_32 => (intro w hSw; (try dsimp only at hSw); go_simp; first | done | with_reducible rfl)
          try simp only [Act.put, List.setIfInBounds_toArray, List.set_cons_zero, List.set_cons_succ]
          refine wpAnyH_take (i := 33) (oi := { dst := some 109, op := Go.Op.binOp Go.BinOp.eql 31 (Go.Operand.tmp 107) (Go.Operand.tmp 108) 31, type := 4, pos := "extra.go:40", after := #[{ on := 31, ground := Go.Ground.data }, { on := 32, ground := Go.Ground.data }, { on := 30, ground := Go.Ground.guard }], guard := some (30, true) }) (v := ?v1301_33) rfl (by kernel_rfl) (by kernel_rfl) (by kernel_rfl) (fun _ _ _ h => h) (Or.inl ⟨by rfl, ?hy1301_33⟩) hHeld5 ?_
          case hy1301_33 => (intro w hSw; (try dsimp only at hSw); go_simp; first | done | with_reducible rfl)
          try simp only [Act.put, List.setIfInBounds_toArray, List.set_cons_zero, List.set_cons_succ]
          refine wpAnyH_take (i := 34) (oi := { dst := some 110, op := Go.Op.pick (Go.Operand.tmp 106) (Go.Operand.tmp 109) (Go.Operand.const (Go.Value.bool false)), type := 4, pos := "extra.go:40", after := #[{ on := 30, ground := Go.Ground.data }, { on := 33, ground := Go.Ground.data }], guard := none }) (v := ?v1301_34) rfl (by kernel_rfl) (by kernel_rfl) (by kernel_rfl) (fun _ _ _ h => h) (Or.inl ⟨by rfl, ?hy1301_34⟩) hHeld5 ?_
          case hy1301_34 => (intro w hSw; (try dsimp only at hSw); go_simp; first | done | with_reducible rfl)
          try simp only [Act.put, List.setIfInBounds_toArray, List.set_cons_zero, List.set_cons_succ]
          refine wpAnyH_take (i := 35) (oi := { dst := some 111, op := Go.Op.move (Go.Operand.tmp 110), type := 4, pos := "extra.go:40", after := #[{ on := 34, ground := Go.Ground.data }, { on := 30, ground := Go.Ground.chain }], guard := none }) (v := ?v1301_35) rfl (by kernel_rfl) (by kernel_rfl) (by kernel_rfl) (fun _ _ _ h => h) (Or.inl ⟨by rfl, ?hy1301_35⟩) hHeld5 ?_
          case hy1301_35 => (intro w hSw; (try dsimp only at hSw); go_simp; first | done | with_reducible rfl)
          try simp only [Act.put, List.setIfInBounds_toArray, List.set_cons_zero, List.set_cons_succ]
          refine wpAnyH_take (i := 36) (oi := { dst := some 112, op := Go.Op.move (Go.Operand.tmp 15), type := 31, pos := "extra.go:40", after := #[{ on := 35, ground := Go.Ground.guard }], guard := some (35, true) }) (v := ?v1301_36) rfl (by kernel_rfl) (by kernel_rfl) (by kernel_rfl) (fun _ _ _ h => h) (Or.inl ⟨by rfl, ?hy1301_36⟩) hHeld5 ?_
          case hy1301_36 => (intro w hSw; (try dsimp only at hSw); go_simp; first | done | with_reducible rfl)
          try simp only [Act.put, List.setIfInBounds_toArray, List.set_cons_zero, List.set_cons_succ]
          refine wpAnyH_take (i := 37) (oi := { dst := some 113, op := Go.Op.move (Go.Operand.tmp 17), type := 31, pos := "extra.go:40", after := #[{ on := 35, ground := Go.Ground.guard }], guard := some (35, true) }) (v := ?v1301_37) rfl (by kernel_rfl) (by kernel_rfl) (by kernel_rfl) (fun _ _ _ h => h) (Or.inl ⟨by rfl, ?hy1301_37⟩) hHeld5 ?_
          case hy1301_37 => (intro w hSw; (try dsimp only at hSw); go_simp; first | done | with_reducible rfl)
          try simp only [Act.put, List.setIfInBounds_toArray, List.set_cons_zero, List.set_cons_succ]
          refine wpAnyH_take (i := 38) (oi := { dst := some 114, op := Go.Op.binOp Go.BinOp.eql 31 (Go.Operand.tmp 112) (Go.Operand.tmp 113) 31, type := 4, pos := "extra.go:40", after := #[{ on := 36, ground := Go.Ground.data }, { on := 37, ground := Go.Ground.data }, { on := 35, ground := Go.Ground.guard }], guard := some (35, true) }) (v := ?v1301_38) rfl (by kernel_rfl) (by kernel_rfl) (by kernel_rfl) (fun _ _ _ h => h) (Or.inl ⟨by rfl, ?hy1301_38⟩) hHeld5 ?_
          case hy1301_38 => (intro w hSw; (try dsimp only at hSw); go_simp; first | done | with_reducible rfl)
          try simp only [Act.put, List.setIfInBounds_toArray, List.set_cons_zero, List.set_cons_succ]
          refine wpAnyH_take (i := 39) (oi := { dst := some 115, op := Go.Op.pick (Go.Operand.tmp 111) (Go.Operand.tmp 114) (Go.Operand.const (Go.Value.bool false)), type := 4, pos := "extra.go:40", after := #[{ on := 35, ground := Go.Ground.data }, { on := 38, ground := Go.Ground.data }], guard := none }) (v := ?v1301_39) rfl (by kernel_rfl) (by kernel_rfl) (by kernel_rfl) (fun _ _ _ h => h) (Or.inl ⟨by rfl, ?hy1301_39⟩) hHeld5 ?_
          case hy1301_39 => (intro w hSw; (try dsimp only at hSw); go_simp; first | done | with_reducible rfl)
          try simp only [Act.put, List.setIfInBounds_toArray, List.set_cons_zero, List.set_cons_succ]
          refine wpAnyH_take (i := 40) (oi := { dst := some 116, op := Go.Op.move (Go.Operand.tmp 115), type := 4, pos := "extra.go:40", after := #[{ on := 39, ground := Go.Ground.data }, { on := 35, ground := Go.Ground.chain }], guard := none }) (v := ?v1301_40) rfl (by kernel_rfl) (by kernel_rfl) (by kernel_rfl) (fun _ _ _ h => h) (Or.inl ⟨by rfl, ?hy1301_40⟩) hHeld5 ?_
          case hy1301_40 => (intro w hSw; (try dsimp only at hSw); go_simp; first | done | with_reducible rfl)
          try simp only [Act.put, List.setIfInBounds_toArray, List.set_cons_zero, List.set_cons_succ]
          refine wpAnyH_take (i := 41) (oi := { dst := some 117, op := Go.Op.move (Go.Operand.tmp 17), type := 31, pos := "extra.go:40", after := #[{ on := 40, ground := Go.Ground.guard }], guard := some (40, true) }) (v := ?v1301_41) rfl (by kernel_rfl) (by kernel_rfl) (by kernel_rfl) (fun _ _ _ h => h) (Or.inl ⟨by rfl, ?hy1301_41⟩) hHeld5 ?_
          case hy1301_41 => (intro w hSw; (try dsimp only at hSw); go_simp; first | done | with_reducible rfl)
          try simp only [Act.put, List.setIfInBounds_toArray, List.set_cons_zero, List.set_cons_succ]
          refine wpAnyH_take (i := 42) (oi := { dst := some 118, op := Go.Op.move (Go.Operand.tmp 19), type := 31, pos := "extra.go:40", after := #[{ on := 40, ground := Go.Ground.guard }], guard := some (40, true) }) (v := ?v1301_42) rfl (by kernel_rfl) (by kernel_rfl) (by kernel_rfl) (fun _ _ _ h => h) (Or.inl ⟨by rfl, ?hy1301_42⟩) hHeld5 ?_
          case hy1301_42 => (intro w hSw; (try dsimp only at hSw); go_simp; first | done | with_reducible rfl)
          try simp only [Act.put, List.setIfInBounds_toArray, List.set_cons_zero, List.set_cons_succ]
          refine wpAnyH_take (i := 43) (oi := { dst := some 119, op := Go.Op.binOp Go.BinOp.eql 31 (Go.Operand.tmp 117) (Go.Operand.tmp 118) 31, type := 4, pos := "extra.go:40", after := #[{ on := 41, ground := Go.Ground.data }, { on := 42, ground := Go.Ground.data }, { on := 40, ground := Go.Ground.guard }], guard := some (40, true) }) (v := ?v1301_43) rfl (by kernel_rfl) (by kernel_rfl) (by kernel_rfl) (fun _ _ _ h => h) (Or.inl ⟨by rfl, ?hy1301_43⟩) hHeld5 ?_
          case hy1301_43 => (intro w hSw; (try dsimp only at hSw); go_simp; first | done | with_reducible rfl)
          try simp only [Act.put, List.setIfInBounds_toArray, List.set_cons_zero, List.set_cons_succ]
          refine wpAnyH_take (i := 44) (oi := { dst := some 120, op := Go.Op.pick (Go.Operand.tmp 116) (Go.Operand.tmp 119) (Go.Operand.const (Go.Value.bool false)), type := 4, pos := "extra.go:40", after := #[{ on := 40, ground := Go.Ground.data }, { on := 43, ground := Go.Ground.data }], guard := none }) (v := ?v1301_44) rfl (by kernel_rfl) (by kernel_rfl) (by kernel_rfl) (fun _ _ _ h => h) (Or.inl ⟨by rfl, ?hy1301_44⟩) hHeld5 ?_
          case hy1301_44 => (intro w hSw; (try dsimp only at hSw); go_simp; first | done | with_reducible rfl)
          try simp only [Act.put, List.setIfInBounds_toArray, List.set_cons_zero, List.set_cons_succ]
          refine wpAnyH_take (i := 45) (oi := { dst := some 121, op := Go.Op.move (Go.Operand.tmp 120), type := 4, pos := "extra.go:40", after := #[{ on := 44, ground := Go.Ground.data }, { on := 40, ground := Go.Ground.chain }], guard := none }) (v := ?v1301_45) rfl (by kernel_rfl) (by kernel_rfl) (by kernel_rfl) (fun _ _ _ h => h) (Or.inl ⟨by rfl, ?hy1301_45⟩) hHeld5 ?_
          case hy1301_45 => (intro w hSw; (try dsimp only at hSw); go_simp; first | done | with_reducible rfl)
          try simp only [Act.put, List.setIfInBounds_toArray, List.set_cons_zero, List.set_cons_succ]
          refine wpAnyH_take (i := 46) (oi := { dst := some 122, op := Go.Op.move (Go.Operand.tmp 13), type := 31, pos := "extra.go:40", after := #[{ on := 45, ground := Go.Ground.guard }], guard := some (45, true) }) (v := ?v1301_46) rfl (by kernel_rfl) (by kernel_rfl) (by kernel_rfl) (fun _ _ _ h => h) (Or.inl ⟨by rfl, ?hy1301_46⟩) hHeld5 ?_
          case hy1301_46 => (intro w hSw; (try dsimp only at hSw); go_simp; first | done | with_reducible rfl)
          try simp only [Act.put, List.setIfInBounds_toArray, List.set_cons_zero, List.set_cons_succ]
          refine wpAnyH_take (i := 47) (oi := { dst := some 123, op := Go.Op.binOp Go.BinOp.neq 31 (Go.Operand.tmp 122) (Go.Operand.const (Go.Value.int Go.IntKind.i64 0)) 31, type := 4, pos := "extra.go:40", after := #[{ on := 46, ground := Go.Ground.data }, { on := 45, ground := Go.Ground.guard }], guard := some (45, true) }) (v := ?v1301_47) rfl (by kernel_rfl) (by kernel_rfl) (by kernel_rfl) (fun _ _ _ h => h) (Or.inl ⟨by rfl, ?hy1301_47⟩) hHeld5 ?_
          case hy1301_47 => (intro w hSw; (try dsimp only at hSw); go_simp; first | done | with_reducible rfl)
          try simp only [Act.put, List.setIfInBounds_toArray, List.set_cons_zero, List.set_cons_succ]
          refine wpAnyH_take (i := 48) (oi := { dst := some 124, op := Go.Op.move (Go.Operand.tmp 123), type := 4, pos := "extra.go:40", after := #[{ on := 47, ground := Go.Ground.data }, { on := 45, ground := Go.Ground.chain }, { on := 45, ground := Go.Ground.guard }], guard := some (45, true) }) (v := ?v1301_48) rfl (by kernel_rfl) (by kernel_rfl) (by kernel_rfl) (fun _ _ _ h => h) (Or.inl ⟨by rfl, ?hy1301_48⟩) hHeld5 ?_
          case hy1301_48 => (intro w hSw; (try dsimp only at hSw); go_simp; first | done | with_reducible rfl)
          try simp only [Act.put, List.setIfInBounds_toArray, List.set_cons_zero, List.set_cons_succ]
          refine wpAnyH_take (i := 49) (oi := { dst := some 125, op := Go.Op.load 24 (Go.Operand.tmp 14), type := 24, pos := "extra.go:40", after := #[{ on := 48, ground := Go.Ground.guard }], guard := some (48, false) }) (v := ?v1301_49) rfl (by kernel_rfl) (by kernel_rfl) (by kernel_rfl) (fun _ _ _ h => h) (Or.inl ⟨by rfl, ?hy1301_49⟩) hHeld5 ?_
          case hy1301_49 => (intro w hSw; (try dsimp only at hSw); go_simp; first | done | with_reducible rfl)
          try simp only [Act.put, List.setIfInBounds_toArray, List.set_cons_zero, List.set_cons_succ]
          refine wpAnyH_take (i := 50) (oi := { dst := some 126, op := Go.Op.load 24 (Go.Operand.tmp 12), type := 24, pos := "extra.go:40", after := #[{ on := 48, ground := Go.Ground.guard }], guard := some (48, false) }) (v := ?v1301_50) rfl (by kernel_rfl) (by kernel_rfl) (by kernel_rfl) (fun _ _ _ h => h) (Or.inl ⟨by rfl, ?hy1301_50⟩) hHeld5 ?_
          case hy1301_50 => (intro w hSw; (try dsimp only at hSw); go_simp; first | done | with_reducible rfl)
          try simp only [Act.put, List.setIfInBounds_toArray, List.set_cons_zero, List.set_cons_succ]
          refine wpAnyH_ready (rs := [51]) (by kernel_rfl) (by simp) ?_
          refine AllReadyH.cons (o := { dst := some 127, op := Go.Op.call { callee := Go.Callee.value (Go.Operand.func 32), args := #[Go.Operand.tmp 126], argTypes := #[24] }, type := 24, pos := "extra.go:40", after := #[{ on := 50, ground := Go.Ground.data }, { on := 48, ground := Go.Ground.chain }, { on := 48, ground := Go.Ground.guard }], guard := some (48, false) }) rfl (fun K hK => ?_) AllReadyH.nil
          go_simp
          (with_reducible refine (neg_n g5 h13 _ (H5.out.plus (by repeat' (first | exact Plus.refl _ | refine Plus.alloc ?_ _ | refine Plus.plus ?_ _ | refine Plus.drew ?_ | refine Plus.drewN ?_ _)))).mono ?_); rintro e w1 ⟨A13, c13, rfl, a13, ⟨x13, rfl⟩⟩; (try simp only [plus_drew] at a13); replace a13 := Lib.hid a13
          go_wp2_with fail
          refine hK.out _ _ (by (try dsimp only); (refine ⟨?_, ?_, ?_, ?_, ?_, ?_, ?_, ?_, ?_, ?_, ?_, ?_, ?_, ?_, ?_, ?_, ?_, ?_⟩ <;> simp [go_sem, z2_0, z2_1, z5_0, z5_1, z6_0, z6_1, z8_0, z8_1, z10_0, z10_1, z12_0, z12_1, z14_0, z14_1, z16_0, z16_1, z18_0, z18_1])) (fun hHeld6 => ?_)
          clear hK K hHeld5
          try simp only [Act.put, List.setIfInBounds_toArray, List.set_cons_zero, List.set_cons_succ]
          refine wpAnyH_ready (rs := [52]) (by kernel_rfl) (by simp) ?_
          refine AllReadyH.cons (o := { dst := some 128, op := Go.Op.call { callee := Go.Callee.value (Go.Operand.func 30), args := #[Go.Operand.tmp 125, Go.Operand.tmp 127], argTypes := #[24, 24] }, type := 4, pos := "extra.go:40", after := #[{ on := 49, ground := Go.Ground.data }, { on := 51, ground := Go.Ground.data }, { on := 51, ground := Go.Ground.chain }, { on := 48, ground := Go.Ground.guard }], guard := some (48, false) }) rfl (fun K hK => ?_) AllReadyH.nil
          go_simp
          (with_reducible refine (same_o g6 g13 e4 _ (H6.out.plus (by repeat' (first | exact Plus.refl _ | refine Plus.alloc ?_ _ | refine Plus.plus ?_ _ | refine Plus.drew ?_ | refine Plus.drewN ?_ _))) (a13.out.plus (by repeat' (first | exact Plus.refl _ | refine Plus.alloc ?_ _ | refine Plus.plus ?_ _ | refine Plus.drew ?_ | refine Plus.drewN ?_ _)))).mono ?_); rintro e w1 ⟨rfl, ⟨z4, rfl⟩⟩
          go_wp2_with fail
          refine hK.out _ _ (by (try dsimp only); (refine ⟨?_, ?_, ?_, ?_, ?_, ?_, ?_, ?_, ?_, ?_, ?_, ?_, ?_, ?_, ?_, ?_, ?_, ?_⟩ <;> simp [go_sem, z2_0, z2_1, z5_0, z5_1, z6_0, z6_1, z8_0, z8_1, z10_0, z10_1, z12_0, z12_1, z14_0, z14_1, z16_0, z16_1, z18_0, z18_1])) (fun hHeld7 => ?_)
          clear hK K hHeld6
          try simp only [Act.put, List.setIfInBounds_toArray, List.set_cons_zero, List.set_cons_succ]
          refine wpAnyH_take (i := 53) (oi := { dst := some 129, op := Go.Op.move (Go.Operand.tmp 128), type := 4, pos := "extra.go:40", after := #[{ on := 52, ground := Go.Ground.data }, { on := 52, ground := Go.Ground.chain }, { on := 48, ground := Go.Ground.guard }], guard := some (48, false) }) (v := ?v1301_53) rfl (by kernel_rfl) (by kernel_rfl) (by kernel_rfl) (fun _ _ _ h => h) (Or.inl ⟨by rfl, ?hy1301_53⟩) hHeld7 ?_
          case hy1301_53 => (intro w hSw; (try dsimp only at hSw); go_simp; first | done | with_reducible rfl)
          try simp only [Act.put, List.setIfInBounds_toArray, List.set_cons_zero, List.set_cons_succ]
          refine wpAnyH_take (i := 54) (oi := { dst := some 130, op := Go.Op.load 24 (Go.Operand.tmp 18), type := 24, pos := "extra.go:40", after := #[{ on := 53, ground := Go.Ground.guard }], guard := some (53, true) }) (v := ?v1301_54) rfl (by kernel_rfl) (by kernel_rfl) (by kernel_rfl) (fun _ _ _ h => h) (Or.inl ⟨by rfl, ?hy1301_54⟩) hHeld7 ?_
          case hy1301_54 => (intro w hSw; (try dsimp only at hSw); go_simp; first | done | with_reducible rfl)
          try simp only [Act.put, List.setIfInBounds_toArray, List.set_cons_zero, List.set_cons_succ]
          refine wpAnyH_take (i := 55) (oi := { dst := some 131, op := Go.Op.load 24 (Go.Operand.tmp 16), type := 24, pos := "extra.go:40", after := #[{ on := 53, ground := Go.Ground.guard }], guard := some (53, true) }) (v := ?v1301_55) rfl (by kernel_rfl) (by kernel_rfl) (by kernel_rfl) (fun _ _ _ h => h) (Or.inl ⟨by rfl, ?hy1301_55⟩) hHeld7 ?_
          case hy1301_55 => (intro w hSw; (try dsimp only at hSw); go_simp; first | done | with_reducible rfl)
          try simp only [Act.put, List.setIfInBounds_toArray, List.set_cons_zero, List.set_cons_succ]
          refine wpAnyH_ready (rs := [56]) (by kernel_rfl) (by simp) ?_
          refine AllReadyH.cons (o := { dst := some 132, op := Go.Op.call { callee := Go.Callee.value (Go.Operand.func 32), args := #[Go.Operand.tmp 131], argTypes := #[24] }, type := 24, pos := "extra.go:40", after := #[{ on := 55, ground := Go.Ground.data }, { on := 53, ground := Go.Ground.chain }, { on := 53, ground := Go.Ground.guard }], guard := some (53, true) }) rfl (fun K hK => ?_) AllReadyH.nil
          go_simp
          (with_reducible refine (neg_n g7 h14 _ (H7.out.plus (by repeat' (first | exact Plus.refl _ | refine Plus.alloc ?_ _ | refine Plus.plus ?_ _ | refine Plus.drew ?_ | refine Plus.drewN ?_ _)))).mono ?_); rintro e w1 ⟨A14, c14, rfl, a14, ⟨x14, rfl⟩⟩; (try simp only [plus_drew] at a14); replace a14 := Lib.hid a14
          go_wp2_with fail
          refine hK.out _ _ (by (try dsimp only); (refine ⟨?_, ?_, ?_, ?_, ?_, ?_, ?_, ?_, ?_, ?_, ?_, ?_, ?_, ?_, ?_, ?_, ?_, ?_⟩ <;> simp [go_sem, z2_0, z2_1, z5_0, z5_1, z6_0, z6_1, z8_0, z8_1, z10_0, z10_1, z12_0, z12_1, z14_0, z14_1, z16_0, z16_1, z18_0, z18_1])) (fun hHeld8 => ?_)
          clear hK K hHeld7
          try simp only [Act.put, List.setIfInBounds_toArray, List.set_cons_zero, List.set_cons_succ]
          refine wpAnyH_ready (rs := [57]) (by kernel_rfl) (by simp) ?_
          refine AllReadyH.cons (o := { dst := some 133, op := Go.Op.call { callee := Go.Callee.value (Go.Operand.func 30), args := #[Go.Operand.tmp 130, Go.Operand.tmp 132], argTypes := #[24, 24] }, type := 4, pos := "extra.go:40", after := #[{ on := 54, ground := Go.Ground.data }, { on := 56, ground := Go.Ground.data }, { on := 56, ground := Go.Ground.chain }, { on := 53, ground := Go.Ground.guard }], guard := some (53, true) }) rfl (fun K hK => ?_) AllReadyH.nil
          go_simp
          (with_reducible refine (same_o g9 g14 e5 _ (H9.out.plus (by repeat' (first | exact Plus.refl _ | refine Plus.alloc ?_ _ | refine Plus.plus ?_ _ | refine Plus.drew ?_ | refine Plus.drewN ?_ _))) (a14.out.plus (by repeat' (first | exact Plus.refl _ | refine Plus.alloc ?_ _ | refine Plus.plus ?_ _ | refine Plus.drew ?_ | refine Plus.drewN ?_ _)))).mono ?_); rintro e w1 ⟨rfl, ⟨z5, rfl⟩⟩
          go_wp2_with fail
          refine hK.out _ _ (by (try dsimp only); (refine ⟨?_, ?_, ?_, ?_, ?_, ?_, ?_, ?_, ?_, ?_, ?_, ?_, ?_, ?_, ?_, ?_, ?_, ?_⟩ <;> simp [go_sem, z2_0, z2_1, z5_0, z5_1, z6_0, z6_1, z8_0, z8_1, z10_0, z10_1, z12_0, z12_1, z14_0, z14_1, z16_0, z16_1, z18_0, z18_1])) (fun hHeld9 => ?_)
          clear hK K hHeld8
          try simp only [Act.put, List.setIfInBounds_toArray, List.set_cons_zero, List.set_cons_succ]
          refine wpAnyH_take (i := 58) (oi := { dst := some 134, op := Go.Op.pick (Go.Operand.tmp 129) (Go.Operand.tmp 133) (Go.Operand.const (Go.Value.bool false)), type := 4, pos := "extra.go:40", after := #[{ on := 53, ground := Go.Ground.data }, { on := 57, ground := Go.Ground.data }, { on := 48, ground := Go.Ground.guard }], guard := some (48, false) }) (v := ?v1301_58) rfl (by kernel_rfl) (by kernel_rfl) (by kernel_rfl) (fun _ _ _ h => h) (Or.inl ⟨by rfl, ?hy1301_58⟩) hHeld9 ?_
          case hy1301_58 => (intro w hSw; (try dsimp only at hSw); go_simp; first | done | with_reducible rfl)
          try simp only [Act.put, List.setIfInBounds_toArray, List.set_cons_zero, List.set_cons_succ]
          refine wpAnyH_take (i := 59) (oi := { dst := some 135, op := Go.Op.pick (Go.Operand.tmp 124) (Go.Operand.const (Go.Value.bool true)) (Go.Operand.tmp 134), type := 4, pos := "extra.go:40", after := #[{ on := 48, ground := Go.Ground.data }, { on := 58, ground := Go.Ground.data }, { on := 45, ground := Go.Ground.guard }], guard := some (45, true) }) (v := ?v1301_59) rfl (by kernel_rfl) (by kernel_rfl) (by kernel_rfl) (fun _ _ _ h => h) (Or.inl ⟨by rfl, ?hy1301_59⟩) hHeld9 ?_
          case hy1301_59 => (intro w hSw; (try dsimp only at hSw); go_simp; first | done | with_reducible rfl)
          try simp only [Act.put, List.setIfInBounds_toArray, List.set_cons_zero, List.set_cons_succ]
          refine wpAnyH_take (i := 60) (oi := { dst := some 136, op := Go.Op.pick (Go.Operand.tmp 121) (Go.Operand.tmp 135) (Go.Operand.const (Go.Value.bool false)), type := 4, pos := "extra.go:40", after := #[{ on := 45, ground := Go.Ground.data }, { on := 59, ground := Go.Ground.data }], guard := none }) (v := ?v1301_60) rfl (by kernel_rfl) (by kernel_rfl) (by kernel_rfl) (fun _ _ _ h => h) (Or.inl ⟨by rfl, ?hy1301_60⟩) hHeld9 ?_
          case hy1301_60 => (intro w hSw; (try dsimp only at hSw); go_simp; first | done | with_reducible rfl)
          try simp only [Act.put, List.setIfInBounds_toArray, List.set_cons_zero, List.set_cons_succ]
          refine wpAnyH_take (i := 61) (oi := { dst := some 4, op := Go.Op.assign (Go.Operand.tmp 136), type := 4, pos := "extra.go:40", after := #[{ on := 60, ground := Go.Ground.data }, { on := 57, ground := Go.Ground.chain }, { on := 0, ground := Go.Ground.phase }, { on := 1, ground := Go.Ground.phase }, { on := 2, ground := Go.Ground.phase }, { on := 3, ground := Go.Ground.phase }, { on := 4, ground := Go.Ground.phase }, { on := 5, ground := Go.Ground.phase }, { on := 6, ground := Go.Ground.phase }, { on := 7, ground := Go.Ground.phase }, { on := 8, ground := Go.Ground.phase }, { on := 9, ground := Go.Ground.phase }, { on := 10, ground := Go.Ground.phase }, { on := 11, ground := Go.Ground.phase }, { on := 12, ground := Go.Ground.phase }, { on := 13, ground := Go.Ground.phase }, { on := 14, ground := Go.Ground.phase }, { on := 15, ground := Go.Ground.phase }, { on := 16, ground := Go.Ground.phase }, { on := 17, ground := Go.Ground.phase }, { on := 18, ground := Go.Ground.phase }, { on := 19, ground := Go.Ground.phase }, { on := 20, ground := Go.Ground.phase }, { on := 21, ground := Go.Ground.phase }, { on := 22, ground := Go.Ground.phase }, { on := 23, ground := Go.Ground.phase }, { on := 24, ground := Go.Ground.phase }, { on := 25, ground := Go.Ground.phase }, { on := 26, ground := Go.Ground.phase }, { on := 27, ground := Go.Ground.phase }, { on := 28, ground := Go.Ground.phase }, { on := 29, ground := Go.Ground.phase }, { on := 30, ground := Go.Ground.phase }, { on := 31, ground := Go.Ground.phase }, { on := 32, ground := Go.Ground.phase }, { on := 33, ground := Go.Ground.phase }, { on := 34, ground := Go.Ground.phase }, { on := 35, ground := Go.Ground.phase }, { on := 36, ground := Go.Ground.phase }, { on := 37, ground := Go.Ground.phase }, { on := 38, ground := Go.Ground.phase }, { on := 39, ground := Go.Ground.phase }, { on := 40, ground := Go.Ground.phase }, { on := 41, ground := Go.Ground.phase }, { on := 42, ground := Go.Ground.phase }, { on := 43, ground := Go.Ground.phase }, { on := 44, ground := Go.Ground.phase }, { on := 45, ground := Go.Ground.phase }, { on := 46, ground := Go.Ground.phase }, { on := 47, ground := Go.Ground.phase }, { on := 48, ground := Go.Ground.phase }, { on := 49, ground := Go.Ground.phase }, { on := 50, ground := Go.Ground.phase }, { on := 51, ground := Go.Ground.phase }, { on := 52, ground := Go.Ground.phase }, { on := 53, ground := Go.Ground.phase }, { on := 54, ground := Go.Ground.phase }, { on := 55, ground := Go.Ground.phase }, { on := 56, ground := Go.Ground.phase }, { on := 57, ground := Go.Ground.phase }, { on := 58, ground := Go.Ground.phase }, { on := 59, ground := Go.Ground.phase }, { on := 60, ground := Go.Ground.phase }], guard := none }) (v := ?v1301_61) rfl (by kernel_rfl) (by kernel_rfl) (by kernel_rfl) (fun _ _ _ h => h) (Or.inl ⟨by rfl, ?hy1301_61⟩) hHeld9 ?_
          case hy1301_61 => (intro w hSw; (try dsimp only at hSw); go_simp; first | done | with_reducible rfl)
          try simp only [Act.put, List.setIfInBounds_toArray, List.set_cons_zero, List.set_cons_succ]
          refine wpAnyH_done (by kernel_rfl) ?_ _
          refine NoPanic.normal ?_
          go_wp2_with fail
          go_returns
          refine ⟨by simp, ?_⟩
          repeat' (first | exact HP2.out | exact Plus.refl _ | refine Plus.alloc ?_ _ | refine Plus.plus ?_ _ | refine Plus.drew ?_ | refine Plus.drewN ?_ _)
      · as_aux_lemma =>
          clear e3
          subst hz
          clear e4 e5
          go_upto_region 13 with fail
          refine wp_region_noPanic ?_
          refine wp_region_held_drew (S := (fun w' => w'.cell? ⟨w.heap.size, 0, none⟩ = some (.bool an) ∧ w'.cell? ⟨w.heap.size, 1, none⟩ = some (.slice A n c) ∧ w'.cell? ⟨k5, 0, none⟩ = some (.bool b1) ∧ w'.cell? ⟨k5, 1, none⟩ = some (.slice A1 u1.length c1) ∧ w'.cell? ⟨k6, 0, none⟩ = some (.bool b2) ∧ w'.cell? ⟨k6, 1, none⟩ = some (.slice A2 u2.length c2) ∧ w'.cell? ⟨k8, 0, none⟩ = some (.bool b3) ∧ w'.cell? ⟨k8, 1, none⟩ = some (.slice A3 u3.length c3) ∧ w'.cell? ⟨k10, 0, none⟩ = some (.bool b4) ∧ w'.cell? ⟨k10, 1, none⟩ = some (.slice A4 u4.length c4) ∧ w'.cell? ⟨k12, 0, none⟩ = some (.bool b5) ∧ w'.cell? ⟨k12, 1, none⟩ = some (.slice A5 u5.length c5) ∧ w'.cell? ⟨k14, 0, none⟩ = some (.bool b6) ∧ w'.cell? ⟨k14, 1, none⟩ = some (.slice A6 u6.length c6) ∧ w'.cell? ⟨k16, 0, none⟩ = some (.bool b7) ∧ w'.cell? ⟨k16, 1, none⟩ = some (.slice A7 u7.length c7) ∧ w'.cell? ⟨k18, 0, none⟩ = some (.bool b9) ∧ w'.cell? ⟨k18, 1, none⟩ = some (.slice A9 u9.length c9))) (by kernel_rfl) (by (refine ⟨?_, ?_, ?_, ?_, ?_, ?_, ?_, ?_, ?_, ?_, ?_, ?_, ?_, ?_, ?_, ?_, ?_, ?_⟩ <;> simp [go_sem, z2_0, z2_1, z5_0, z5_1, z6_0, z6_1, z8_0, z8_1, z10_0, z10_1, z12_0, z12_1, z14_0, z14_1, z16_0, z16_1, z18_0, z18_1])) (fun hHeld => ?_)
          refine wpAnyH_ready (rs := [0]) (by kernel_rfl) (by simp) ?_
          refine AllReadyH.cons (o := { dst := some 76, op := Go.Op.call { callee := Go.Callee.value (Go.Operand.func 14), args := #[], argTypes := #[] }, type := 4, pos := "extra.go:40", after := #[], guard := none }) rfl (fun K hK => ?_) AllReadyH.nil
          go_simp
          (with_reducible refine (first_c _).mono ?_); rintro e w1 ⟨rfl, ⟨z0, rfl⟩⟩
          go_wp2_with fail
          refine hK.out _ _ (by (try dsimp only); (refine ⟨?_, ?_, ?_, ?_, ?_, ?_, ?_, ?_, ?_, ?_, ?_, ?_, ?_, ?_, ?_, ?_, ?_, ?_⟩ <;> simp [go_sem, z2_0, z2_1, z5_0, z5_1, z6_0, z6_1, z8_0, z8_1, z10_0, z10_1, z12_0, z12_1, z14_0, z14_1, z16_0, z16_1, z18_0, z18_1])) (fun hHeld1 => ?_)
          clear hK K hHeld
          try simp only [Act.put, List.setIfInBounds_toArray, List.set_cons_zero, List.set_cons_succ]
          refine wpAnyH_take (i := 1) (oi := { dst := some 77, op := Go.Op.move (Go.Operand.tmp 76), type := 4, pos := "extra.go:40", after := #[{ on := 0, ground := Go.Ground.data }, { on := 0, ground := Go.Ground.chain }], guard := none }) (v := ?v1300_1) rfl (by kernel_rfl) (by kernel_rfl) (by kernel_rfl) (fun _ _ _ h => h) (Or.inl ⟨by rfl, ?hy1300_1⟩) hHeld1 ?_
          case hy1300_1 => (intro w hSw; (try dsimp only at hSw); go_simp; first | done | with_reducible rfl)
          try simp only [Act.put, List.setIfInBounds_toArray, List.set_cons_zero, List.set_cons_succ]
          refine wpAnyH_take (i := 2) (oi := { dst := some 78, op := Go.Op.load 24 (Go.Operand.tmp 5), type := 24, pos := "extra.go:40", after := #[{ on := 1, ground := Go.Ground.guard }], guard := some (1, true) }) (v := ?v1300_2) rfl (by kernel_rfl) (by kernel_rfl) (by kernel_rfl) (fun _ _ _ h => h) (Or.inl ⟨by rfl, ?hy1300_2⟩) hHeld1 ?_
          case hy1300_2 => (intro w hSw; (try dsimp only at hSw); go_simp; first | done | with_reducible rfl)
          try simp only [Act.put, List.setIfInBounds_toArray, List.set_cons_zero, List.set_cons_succ]
          refine wpAnyH_take (i := 4) (oi := { dst := some 80, op := Go.Op.load 24 (Go.Operand.tmp 2), type := 24, pos := "extra.go:40", after := #[{ on := 1, ground := Go.Ground.guard }], guard := some (1, true) }) (v := ?v1300_4) rfl (by kernel_rfl) (by kernel_rfl) (by kernel_rfl) (fun _ _ _ h => h) (Or.inl ⟨by rfl, ?hy1300_4⟩) hHeld1 ?_
          case hy1300_4 => (intro w hSw; (try dsimp only at hSw); go_simp; first | done | with_reducible rfl)
          try simp only [Act.put, List.setIfInBounds_toArray, List.set_cons_zero, List.set_cons_succ]
          refine wpAnyH_ready (rs := [3]) (by kernel_rfl) (by simp) ?_
          refine AllReadyH.cons (o := { dst := some 79, op := Go.Op.call { callee := Go.Callee.value (Go.Operand.func 32), args := #[Go.Operand.tmp 78], argTypes := #[24] }, type := 24, pos := "extra.go:40", after := #[{ on := 2, ground := Go.Ground.data }, { on := 1, ground := Go.Ground.chain }, { on := 1, ground := Go.Ground.guard }], guard := some (1, true) }) rfl (fun K hK => ?_) AllReadyH.nil
          go_simp
          (with_reducible refine (neg_n g1 h10 _ (H1.out.plus (by repeat' (first | exact Plus.refl _ | refine Plus.alloc ?_ _ | refine Plus.plus ?_ _ | refine Plus.drew ?_ | refine Plus.drewN ?_ _)))).mono ?_); rintro e w1 ⟨A10, c10, rfl, a10, ⟨x10, rfl⟩⟩; (try simp only [plus_drew] at a10); replace a10 := Lib.hid a10
          go_wp2_with fail
          refine hK.out _ _ (by (try dsimp only); (refine ⟨?_, ?_, ?_, ?_, ?_, ?_, ?_, ?_, ?_, ?_, ?_, ?_, ?_, ?_, ?_, ?_, ?_, ?_⟩ <;> simp [go_sem, z2_0, z2_1, z5_0, z5_1, z6_0, z6_1, z8_0, z8_1, z10_0, z10_1, z12_0, z12_1, z14_0, z14_1, z16_0, z16_1, z18_0, z18_1])) (fun hHeld2 => ?_)
          clear hK K hHeld1
          try simp only [Act.put, List.setIfInBounds_toArray, List.set_cons_zero, List.set_cons_succ]
          refine wpAnyH_ready (rs := [5]) (by kernel_rfl) (by simp) ?_
          refine AllReadyH.cons (o := { dst := some 81, op := Go.Op.call { callee := Go.Callee.value (Go.Operand.func 30), args := #[Go.Operand.tmp 79, Go.Operand.tmp 80], argTypes := #[24, 24] }, type := 4, pos := "extra.go:40", after := #[{ on := 3, ground := Go.Ground.data }, { on := 4, ground := Go.Ground.data }, { on := 3, ground := Go.Ground.chain }, { on := 1, ground := Go.Ground.guard }], guard := some (1, true) }) rfl (fun K hK => ?_) AllReadyH.nil
          go_simp
          (with_reducible refine (same_o g10 hA e1 _ (a10.out.plus (by repeat' (first | exact Plus.refl _ | refine Plus.alloc ?_ _ | refine Plus.plus ?_ _ | refine Plus.drew ?_ | refine Plus.drewN ?_ _))) (HAw.out.plus (by repeat' (first | exact Plus.refl _ | refine Plus.alloc ?_ _ | refine Plus.plus ?_ _ | refine Plus.drew ?_ | refine Plus.drewN ?_ _)))).mono ?_); rintro e w1 ⟨rfl, ⟨z1, rfl⟩⟩
          go_wp2_with fail
          refine hK.out _ _ (by (try dsimp only); (refine ⟨?_, ?_, ?_, ?_, ?_, ?_, ?_, ?_, ?_, ?_, ?_, ?_, ?_, ?_, ?_, ?_, ?_, ?_⟩ <;> simp [go_sem, z2_0, z2_1, z5_0, z5_1, z6_0, z6_1, z8_0, z8_1, z10_0, z10_1, z12_0, z12_1, z14_0, z14_1, z16_0, z16_1, z18_0, z18_1])) (fun hHeld3 => ?_)
          clear hK K hHeld2
          try simp only [Act.put, List.setIfInBounds_toArray, List.set_cons_zero, List.set_cons_succ]
          refine wpAnyH_take (i := 6) (oi := { dst := some 82, op := Go.Op.pick (Go.Operand.tmp 77) (Go.Operand.tmp 81) (Go.Operand.const (Go.Value.bool false)), type := 4, pos := "extra.go:40", after := #[{ on := 1, ground := Go.Ground.data }, { on := 5, ground := Go.Ground.data }], guard := none }) (v := ?v1300_6) rfl (by kernel_rfl) (by kernel_rfl) (by kernel_rfl) (fun _ _ _ h => h) (Or.inl ⟨by rfl, ?hy1300_6⟩) hHeld3 ?_
          case hy1300_6 => (intro w hSw; (try dsimp only at hSw); go_simp; first | done | with_reducible rfl)
          try simp only [Act.put, List.setIfInBounds_toArray, List.set_cons_zero, List.set_cons_succ]
          refine wpAnyH_take (i := 7) (oi := { dst := some 83, op := Go.Op.move (Go.Operand.tmp 82), type := 4, pos := "extra.go:40", after := #[{ on := 6, ground := Go.Ground.data }, { on := 5, ground := Go.Ground.chain }], guard := none }) (v := ?v1300_7) rfl (by kernel_rfl) (by kernel_rfl) (by kernel_rfl) (fun _ _ _ h => h) (Or.inl ⟨by rfl, ?hy1300_7⟩) hHeld3 ?_
          case hy1300_7 => (intro w hSw; (try dsimp only at hSw); go_simp; first | done | with_reducible rfl)
          try simp only [Act.put, List.setIfInBounds_toArray, List.set_cons_zero, List.set_cons_succ]
          refine wpAnyH_take (i := 8) (oi := { dst := some 84, op := Go.Op.move (Go.Operand.tmp 7), type := 4, pos := "extra.go:40", after := #[{ on := 7, ground := Go.Ground.guard }], guard := some (7, true) }) (v := ?v1300_8) rfl (by kernel_rfl) (by kernel_rfl) (by kernel_rfl) (fun _ _ _ h => h) (Or.inl ⟨by rfl, ?hy1300_8⟩) hHeld3 ?_
          case hy1300_8 => (intro w hSw; (try dsimp only at hSw); go_simp; first | done | with_reducible rfl)
          try simp only [Act.put, List.setIfInBounds_toArray, List.set_cons_zero, List.set_cons_succ]
          refine wpAnyH_take (i := 9) (oi := { dst := some 85, op := Go.Op.pick (Go.Operand.tmp 83) (Go.Operand.tmp 84) (Go.Operand.const (Go.Value.bool false)), type := 4, pos := "extra.go:40", after := #[{ on := 7, ground := Go.Ground.data }, { on := 8, ground := Go.Ground.data }], guard := none }) (v := ?v1300_9) rfl (by kernel_rfl) (by kernel_rfl) (by kernel_rfl) (fun _ _ _ h => h) (Or.inl ⟨by rfl, ?hy1300_9⟩) hHeld3 ?_
          case hy1300_9 => (intro w hSw; (try dsimp only at hSw); go_simp; first | done | with_reducible rfl)
          try simp only [Act.put, List.setIfInBounds_toArray, List.set_cons_zero, List.set_cons_succ]
          refine wpAnyH_take (i := 10) (oi := { dst := some 86, op := Go.Op.move (Go.Operand.tmp 85), type := 4, pos := "extra.go:40", after := #[{ on := 9, ground := Go.Ground.data }, { on := 7, ground := Go.Ground.chain }], guard := none }) (v := ?v1300_10) rfl (by kernel_rfl) (by kernel_rfl) (by kernel_rfl) (fun _ _ _ h => h) (Or.inl ⟨by rfl, ?hy1300_10⟩) hHeld3 ?_
          case hy1300_10 => (intro w hSw; (try dsimp only at hSw); go_simp; first | done | with_reducible rfl)
          try simp only [Act.put, List.setIfInBounds_toArray, List.set_cons_zero, List.set_cons_succ]
          refine wpAnyH_take (i := 11) (oi := { dst := some 87, op := Go.Op.load 24 (Go.Operand.tmp 6), type := 24, pos := "extra.go:40", after := #[{ on := 10, ground := Go.Ground.guard }], guard := some (10, true) }) (v := ?v1300_11) rfl (by kernel_rfl) (by kernel_rfl) (by kernel_rfl) (fun _ _ _ h => h) (Or.inl ⟨by rfl, ?hy1300_11⟩) hHeld3 ?_
          case hy1300_11 => (intro w hSw; (try dsimp only at hSw); go_simp; first | done | with_reducible rfl)
          try simp only [Act.put, List.setIfInBounds_toArray, List.set_cons_zero, List.set_cons_succ]
          refine wpAnyH_ready (rs := [12]) (by kernel_rfl) (by simp) ?_
          refine AllReadyH.cons (o := { dst := some 88, op := Go.Op.call { callee := Go.Callee.value (Go.Operand.func 44), args := #[Go.Operand.const (Go.Value.int Go.IntKind.i64 0)], argTypes := #[3] }, type := 24, pos := "extra.go:40", after := #[{ on := 10, ground := Go.Ground.chain }, { on := 10, ground := Go.Ground.guard }], guard := some (10, true) }) rfl (fun K hK => ?_) AllReadyH.nil
          go_simp
          (with_reducible refine (of_n h11 _).mono ?_); rintro e w1 ⟨A11, c11, rfl, a11, ⟨x11, rfl⟩⟩; (try simp only [plus_drew] at a11); replace a11 := Lib.hid a11
          go_wp2_with fail
          refine hK.out _ _ (by (try dsimp only); (refine ⟨?_, ?_, ?_, ?_, ?_, ?_, ?_, ?_, ?_, ?_, ?_, ?_, ?_, ?_, ?_, ?_, ?_, ?_⟩ <;> simp [go_sem, z2_0, z2_1, z5_0, z5_1, z6_0, z6_1, z8_0, z8_1, z10_0, z10_1, z12_0, z12_1, z14_0, z14_1, z16_0, z16_1, z18_0, z18_1])) (fun hHeld4 => ?_)
          clear hK K hHeld3
          try simp only [Act.put, List.setIfInBounds_toArray, List.set_cons_zero, List.set_cons_succ]
          refine wpAnyH_ready (rs := [13]) (by kernel_rfl) (by simp) ?_
          refine AllReadyH.cons (o := { dst := some 89, op := Go.Op.call { callee := Go.Callee.value (Go.Operand.func 30), args := #[Go.Operand.tmp 87, Go.Operand.tmp 88], argTypes := #[24, 24] }, type := 4, pos := "extra.go:40", after := #[{ on := 11, ground := Go.Ground.data }, { on := 12, ground := Go.Ground.data }, { on := 12, ground := Go.Ground.chain }, { on := 10, ground := Go.Ground.guard }], guard := some (10, true) }) rfl (fun K hK => ?_) AllReadyH.nil
          go_simp
          (with_reducible refine (same_o g2 g11 e2 _ (H2.out.plus (by repeat' (first | exact Plus.refl _ | refine Plus.alloc ?_ _ | refine Plus.plus ?_ _ | refine Plus.drew ?_ | refine Plus.drewN ?_ _))) (a11.out.plus (by repeat' (first | exact Plus.refl _ | refine Plus.alloc ?_ _ | refine Plus.plus ?_ _ | refine Plus.drew ?_ | refine Plus.drewN ?_ _)))).mono ?_); rintro e w1 ⟨rfl, ⟨z2, rfl⟩⟩
          go_wp2_with fail
          refine hK.out _ _ (by (try dsimp only); (refine ⟨?_, ?_, ?_, ?_, ?_, ?_, ?_, ?_, ?_, ?_, ?_, ?_, ?_, ?_, ?_, ?_, ?_, ?_⟩ <;> simp [go_sem, z2_0, z2_1, z5_0, z5_1, z6_0, z6_1, z8_0, z8_1, z10_0, z10_1, z12_0, z12_1, z14_0, z14_1, z16_0, z16_1, z18_0, z18_1])) (fun hHeld5 => ?_)
          clear hK K hHeld4
          try simp only [Act.put, List.setIfInBounds_toArray, List.set_cons_zero, List.set_cons_succ]
          refine wpAnyH_take (i := 14) (oi := { dst := some 90, op := Go.Op.pick (Go.Operand.tmp 86) (Go.Operand.tmp 89) (Go.Operand.const (Go.Value.bool false)), type := 4, pos := "extra.go:40", after := #[{ on := 10, ground := Go.Ground.data }, { on := 13, ground := Go.Ground.data }], guard := none }) (v := ?v1300_14) rfl (by kernel_rfl) (by kernel_rfl) (by kernel_rfl) (fun _ _ _ h => h) (Or.inl ⟨by rfl, ?hy1300_14⟩) hHeld5 ?_
          case hy1300_14 => (intro w hSw; (try dsimp only at hSw); go_simp; first | done | with_reducible rfl)
          try simp only [Act.put, List.setIfInBounds_toArray, List.set_cons_zero, List.set_cons_succ]
          refine wpAnyH_take (i := 15) (oi := { dst := some 91, op := Go.Op.move (Go.Operand.tmp 90), type := 4, pos := "extra.go:40", after := #[{ on := 14, ground := Go.Ground.data }, { on := 13, ground := Go.Ground.chain }], guard := none }) (v := ?v1300_15) rfl (by kernel_rfl) (by kernel_rfl) (by kernel_rfl) (fun _ _ _ h => h) (Or.inl ⟨by rfl, ?hy1300_15⟩) hHeld5 ?_
          case hy1300_15 => (intro w hSw; (try dsimp only at hSw); go_simp; first | done | with_reducible rfl)
          try simp only [Act.put, List.setIfInBounds_toArray, List.set_cons_zero, List.set_cons_succ]
          refine wpAnyH_take (i := 16) (oi := { dst := some 92, op := Go.Op.move (Go.Operand.tmp 9), type := 4, pos := "extra.go:40", after := #[{ on := 15, ground := Go.Ground.guard }], guard := some (15, true) }) (v := ?v1300_16) rfl (by kernel_rfl) (by kernel_rfl) (by kernel_rfl) (fun _ _ _ h => h) (Or.inl ⟨by rfl, ?hy1300_16⟩) hHeld5 ?_
          case hy1300_16 => (intro w hSw; (try dsimp only at hSw); go_simp; first | done | with_reducible rfl)
          try simp only [Act.put, List.setIfInBounds_toArray, List.set_cons_zero, List.set_cons_succ]
          refine wpAnyH_take (i := 17) (oi := { dst := some 93, op := Go.Op.move (Go.Operand.tmp 11), type := 4, pos := "extra.go:40", after := #[{ on := 15, ground := Go.Ground.guard }], guard := some (15, true) }) (v := ?v1300_17) rfl (by kernel_rfl) (by kernel_rfl) (by kernel_rfl) (fun _ _ _ h => h) (Or.inl ⟨by rfl, ?hy1300_17⟩) hHeld5 ?_
          case hy1300_17 => (intro w hSw; (try dsimp only at hSw); go_simp; first | done | with_reducible rfl)
          try simp only [Act.put, List.setIfInBounds_toArray, List.set_cons_zero, List.set_cons_succ]
          refine wpAnyH_take (i := 18) (oi := { dst := some 94, op := Go.Op.binOp Go.BinOp.eql 4 (Go.Operand.tmp 92) (Go.Operand.tmp 93) 4, type := 4, pos := "extra.go:40", after := #[{ on := 16, ground := Go.Ground.data }, { on := 17, ground := Go.Ground.data }, { on := 15, ground := Go.Ground.guard }], guard := some (15, true) }) (v := ?v1300_18) rfl (by kernel_rfl) (by kernel_rfl) (by kernel_rfl) (fun _ _ _ h => h) (Or.inl ⟨by rfl, ?hy1300_18⟩) hHeld5 ?_
          case hy1300_18 => (intro w hSw; (try dsimp only at hSw); go_simp; first | done | with_reducible rfl)
          try simp only [Act.put, List.setIfInBounds_toArray, List.set_cons_zero, List.set_cons_succ]
          refine wpAnyH_take (i := 19) (oi := { dst := some 95, op := Go.Op.pick (Go.Operand.tmp 91) (Go.Operand.tmp 94) (Go.Operand.const (Go.Value.bool false)), type := 4, pos := "extra.go:40", after := #[{ on := 15, ground := Go.Ground.data }, { on := 18, ground := Go.Ground.data }], guard := none }) (v := ?v1300_19) rfl (by kernel_rfl) (by kernel_rfl) (by kernel_rfl) (fun _ _ _ h => h) (Or.inl ⟨by rfl, ?hy1300_19⟩) hHeld5 ?_
          case hy1300_19 => (intro w hSw; (try dsimp only at hSw); go_simp; first | done | with_reducible rfl)
          try simp only [Act.put, List.setIfInBounds_toArray, List.set_cons_zero, List.set_cons_succ]
          refine wpAnyH_take (i := 20) (oi := { dst := some 96, op := Go.Op.move (Go.Operand.tmp 95), type := 4, pos := "extra.go:40", after := #[{ on := 19, ground := Go.Ground.data }, { on := 15, ground := Go.Ground.chain }], guard := none }) (v := ?v1300_20) rfl (by kernel_rfl) (by kernel_rfl) (by kernel_rfl) (fun _ _ _ h => h) (Or.inl ⟨by rfl, ?hy1300_20⟩) hHeld5 ?_
          case hy1300_20 => (intro w hSw; (try dsimp only at hSw); go_simp; first | done | with_reducible rfl)
          try simp only [Act.put, List.setIfInBounds_toArray, List.set_cons_zero, List.set_cons_succ]
          refine wpAnyH_take (i := 21) (oi := { dst := some 97, op := Go.Op.move (Go.Operand.tmp 9), type := 4, pos := "extra.go:40", after := #[{ on := 20, ground := Go.Ground.guard }], guard := some (20, true) }) (v := ?v1300_21) rfl (by kernel_rfl) (by kernel_rfl) (by kernel_rfl) (fun _ _ _ h => h) (Or.inl ⟨by rfl, ?hy1300_21⟩) hHeld5 ?_
          case hy1300_21 => (intro w hSw; (try dsimp only at hSw); go_simp; first | done | with_reducible rfl)
          try simp only [Act.put, List.setIfInBounds_toArray, List.set_cons_zero, List.set_cons_succ]
          refine wpAnyH_take (i := 22) (oi := { dst := some 98, op := Go.Op.unOp Go.UnOp.not 4 (Go.Operand.tmp 97), type := 4, pos := "extra.go:40", after := #[{ on := 21, ground := Go.Ground.data }, { on := 20, ground := Go.Ground.guard }], guard := some (20, true) }) (v := ?v1300_22) rfl (by kernel_rfl) (by kernel_rfl) (by kernel_rfl) (fun _ _ _ h => h) (Or.inl ⟨by rfl, ?hy1300_22⟩) hHeld5 ?_
          case hy1300_22 => (intro w hSw; (try dsimp only at hSw); go_simp; first | done | with_reducible rfl)
          try simp only [Act.put, List.setIfInBounds_toArray, List.set_cons_zero, List.set_cons_succ]
          refine wpAnyH_take (i := 23) (oi := { dst := some 99, op := Go.Op.move (Go.Operand.tmp 98), type := 4, pos := "extra.go:40", after := #[{ on := 22, ground := Go.Ground.data }, { on := 20, ground := Go.Ground.chain }, { on := 20, ground := Go.Ground.guard }], guard := some (20, true) }) (v := ?v1300_23) rfl (by kernel_rfl) (by kernel_rfl) (by kernel_rfl) (fun _ _ _ h => h) (Or.inl ⟨by rfl, ?hy1300_23⟩) hHeld5 ?_
          case hy1300_23 => (intro w hSw; (try dsimp only at hSw); go_simp; first | done | with_reducible rfl)
          try simp only [Act.put, List.setIfInBounds_toArray, List.set_cons_zero, List.set_cons_succ]
          refine wpAnyH_take (i := 24) (oi := { dst := some 100, op := Go.Op.load 24 (Go.Operand.tmp 10), type := 24, pos := "extra.go:40", after := #[{ on := 23, ground := Go.Ground.guard }], guard := some (23, false) }) (v := undef) rfl (by kernel_rfl) (by kernel_rfl) (by kernel_rfl) (fun _ _ _ h => h) (Or.inr ⟨by rfl, rfl⟩) hHeld5 ?_
          try simp only [Act.put, List.setIfInBounds_toArray, List.set_cons_zero, List.set_cons_succ]
          refine wpAnyH_take (i := 25) (oi := { dst := some 101, op := Go.Op.load 24 (Go.Operand.tmp 8), type := 24, pos := "extra.go:40", after := #[{ on := 23, ground := Go.Ground.guard }], guard := some (23, false) }) (v := undef) rfl (by kernel_rfl) (by kernel_rfl) (by kernel_rfl) (fun _ _ _ h => h) (Or.inr ⟨by rfl, rfl⟩) hHeld5 ?_
          try simp only [Act.put, List.setIfInBounds_toArray, List.set_cons_zero, List.set_cons_succ]
          refine wpAnyH_take (i := 26) (oi := { dst := some 102, op := Go.Op.call { callee := Go.Callee.value (Go.Operand.func 32), args := #[Go.Operand.tmp 101], argTypes := #[24] }, type := 24, pos := "extra.go:40", after := #[{ on := 25, ground := Go.Ground.data }, { on := 23, ground := Go.Ground.chain }, { on := 23, ground := Go.Ground.guard }], guard := some (23, false) }) (v := undef) rfl (by kernel_rfl) (by kernel_rfl) (by kernel_rfl) (fun _ _ _ h => h) (Or.inr ⟨by rfl, rfl⟩) hHeld5 ?_
          try simp only [Act.put, List.setIfInBounds_toArray, List.set_cons_zero, List.set_cons_succ]
          refine wpAnyH_take (i := 27) (oi := { dst := some 103, op := Go.Op.call { callee := Go.Callee.value (Go.Operand.func 30), args := #[Go.Operand.tmp 100, Go.Operand.tmp 102], argTypes := #[24, 24] }, type := 4, pos := "extra.go:40", after := #[{ on := 24, ground := Go.Ground.data }, { on := 26, ground := Go.Ground.data }, { on := 26, ground := Go.Ground.chain }, { on := 23, ground := Go.Ground.guard }], guard := some (23, false) }) (v := undef) rfl (by kernel_rfl) (by kernel_rfl) (by kernel_rfl) (fun _ _ _ h => h) (Or.inr ⟨by rfl, rfl⟩) hHeld5 ?_
          try simp only [Act.put, List.setIfInBounds_toArray, List.set_cons_zero, List.set_cons_succ]
          refine wpAnyH_take (i := 28) (oi := { dst := some 104, op := Go.Op.pick (Go.Operand.tmp 99) (Go.Operand.const (Go.Value.bool true)) (Go.Operand.tmp 103), type := 4, pos := "extra.go:40", after := #[{ on := 23, ground := Go.Ground.data }, { on := 27, ground := Go.Ground.data }, { on := 20, ground := Go.Ground.guard }], guard := some (20, true) }) (v := ?v1300_28) rfl (by kernel_rfl) (by kernel_rfl) (by kernel_rfl) (fun _ _ _ h => h) (Or.inl ⟨by rfl, ?hy1300_28⟩) hHeld5 ?_
          case hy1300_28 => (intro w hSw; (try dsimp only at hSw); go_simp; first | done | with_reducible rfl)
          try simp only [Act.put, List.setIfInBounds_toArray, List.set_cons_zero, List.set_cons_succ]
          refine wpAnyH_take (i := 29) (oi := { dst := some 105, op := Go.Op.pick (Go.Operand.tmp 96) (Go.Operand.tmp 104) (Go.Operand.const (Go.Value.bool false)), type := 4, pos := "extra.go:40", after := #[{ on := 20, ground := Go.Ground.data }, { on := 28, ground := Go.Ground.data }], guard := none }) (v := ?v1300_29) rfl (by kernel_rfl) (by kernel_rfl) (by kernel_rfl) (fun _ _ _ h => h) (Or.inl ⟨by rfl, ?hy1300_29⟩) hHeld5 ?_
          case hy1300_29 => (intro w hSw; (try dsimp only at hSw); go_simp; first | done | with_reducible rfl)
          try simp only [Act.put, List.setIfInBounds_toArray, List.set_cons_zero, List.set_cons_succ]
          refine wpAnyH_take (i := 30) (oi := { dst := some 106, op := Go.Op.move (Go.Operand.tmp 105), type := 4, pos := "extra.go:40", after := #[{ on := 29, ground := Go.Ground.data }, { on := 27, ground := Go.Ground.chain }], guard := none }) (v := ?v1300_30) rfl (by kernel_rfl) (by kernel_rfl) (by kernel_rfl) (fun _ _ _ h => h) (Or.inl ⟨by rfl, ?hy1300_30⟩) hHeld5 ?_
          case hy1300_30 => (intro w hSw; (try dsimp only at hSw); go_simp; first | done | with_reducible rfl)
          try simp only [Act.put, List.setIfInBounds_toArray, List.set_cons_zero, List.set_cons_succ]
          refine wpAnyH_take (i := 31) (oi := { dst := some 107, op := Go.Op.move (Go.Operand.tmp 13), type := 31, pos := "extra.go:40", after := #[{ on := 30, ground := Go.Ground.guard }], guard := some (30, true) }) (v := ?v1300_31) rfl (by kernel_rfl) (by kernel_rfl) (by kernel_rfl) (fun _ _ _ h => h) (Or.inl ⟨by rfl, ?hy1300_31⟩) hHeld5 ?_
          case hy1300_31 => (intro w hSw; (try dsimp only at hSw); go_simp; first | done | with_reducible rfl)
          try simp only [Act.put, List.setIfInBounds_toArray, List.set_cons_zero, List.set_cons_succ]
          refine wpAnyH_take (i := 32) (oi := { dst := some 108, op := Go.Op.move (Go.Operand.tmp 15), type := 31, pos := "extra.go:40", after := #[{ on := 30, ground := Go.Ground.guard }], guard := some (30, true) }) (v := ?v1300_32) rfl (by kernel_rfl) (by kernel_rfl) (by kernel_rfl) (fun _ _ _ h => h) (Or.inl ⟨by rfl, ?hy1300_32⟩) hHeld5 ?_
          case hy1300_32 => (intro w hSw; (try dsimp only at hSw); go_simp; first | done | with_reducible rfl)
          try simp only [Act.put, List.setIfInBounds_toArray, List.set_cons_zero, List.set_cons_succ]
          refine wpAnyH_take (i := 33) (oi := { dst := some 109, op := Go.Op.binOp Go.BinOp.eql 31 (Go.Operand.tmp 107) (Go.Operand.tmp 108) 31, type := 4, pos := "extra.go:40", after := #[{ on := 31, ground := Go.Ground.data }, { on := 32, ground := Go.Ground.data }, { on := 30, ground := Go.Ground.guard }], guard := some (30, true) }) (v := ?v1300_33) rfl (by kernel_rfl) (by kernel_rfl) (by kernel_rfl) (fun _ _ _ h => h) (Or.inl ⟨by rfl, ?hy1300_33⟩) hHeld5 ?_
          case hy1300_33 => (intro w hSw; (try dsimp only at hSw); go_simp; first | done | with_reducible rfl)
          try simp only [Act.put, List.setIfInBounds_toArray, List.set_cons_zero, List.set_cons_succ]
          refine wpAnyH_take (i := 34) (oi := { dst := some 110, op := Go.Op.pick (Go.Operand.tmp 106) (Go.Operand.tmp 109) (Go.Operand.const (Go.Value.bool false)), type := 4, pos := "extra.go:40", after := #[{ on := 30, ground := Go.Ground.data }, { on := 33, ground := Go.Ground.data }], guard := none }) (v := ?v1300_34) rfl (by kernel_rfl) (by kernel_rfl) (by kernel_rfl) (fun _ _ _ h => h) (Or.inl ⟨by rfl, ?hy1300_34⟩) hHeld5 ?_
          case hy1300_34 => (intro w hSw; (try dsimp only at hSw); go_simp; first | done | with_reducible rfl)
          try simp only [Act.put, List.setIfInBounds_toArray, List.set_cons_zero, List.set_cons_succ]
          refine wpAnyH_take (i := 35) (oi := { dst := some 111, op := Go.Op.move (Go.Operand.tmp 110), type := 4, pos := "extra.go:40", after := #[{ on := 34, ground := Go.Ground.data }, { on := 30, ground := Go.Ground.chain }], guard := none }) (v := ?v1300_35) rfl (by kernel_rfl) (by kernel_rfl) (by kernel_rfl) (fun _ _ _ h => h) (Or.inl ⟨by rfl, ?hy1300_35⟩) hHeld5 ?_
          case hy1300_35 => (intro w hSw; (try dsimp only at hSw); go_simp; first | done | with_reducible rfl)
          try simp only [Act.put, List.setIfInBounds_toArray, List.set_cons_zero, List.set_cons_succ]
          refine wpAnyH_take (i := 36) (oi := { dst := some 112, op := Go.Op.move (Go.Operand.tmp 15), type := 31, pos := "extra.go:40", after := #[{ on := 35, ground := Go.Ground.guard }], guard := some (35, true) }) (v := ?v1300_36) rfl (by kernel_rfl) (by kernel_rfl) (by kernel_rfl) (fun _ _ _ h => h) (Or.inl ⟨by rfl, ?hy1300_36⟩) hHeld5 ?_
          case hy1300_36 => (intro w hSw; (try dsimp only at hSw); go_simp; first | done | with_reducible rfl)
          try simp only [Act.put, List.setIfInBounds_toArray, List.set_cons_zero, List.set_cons_succ]
          refine wpAnyH_take (i := 37) (oi := { dst := some 113, op := Go.Op.move (Go.Operand.tmp 17), type := 31, pos := "extra.go:40", after := #[{ on := 35, ground := Go.Ground.guard }], guard := some (35, true) }) (v := ?v1300_37) rfl (by kernel_rfl) (by kernel_rfl) (by kernel_rfl) (fun _ _ _ h => h) (Or.inl ⟨by rfl, ?hy1300_37⟩) hHeld5 ?_
          case hy1300_37 => (intro w hSw; (try dsimp only at hSw); go_simp; first | done | with_reducible rfl)
          try simp only [Act.put, List.setIfInBounds_toArray, List.set_cons_zero, List.set_cons_succ]
          refine wpAnyH_take (i := 38) (oi := { dst := some 114, op := Go.Op.binOp Go.BinOp.eql 31 (Go.Operand.tmp 112) (Go.Operand.tmp 113) 31, type := 4, pos := "extra.go:40", after := #[{ on := 36, ground := Go.Ground.data }, { on := 37, ground := Go.Ground.data }, { on := 35, ground := Go.Ground.guard }], guard := some (35, true) }) (v := ?v1300_38) rfl (by kernel_rfl) (by kernel_rfl) (by kernel_rfl) (fun _ _ _ h => h) (Or.inl ⟨by rfl, ?hy1300_38⟩) hHeld5 ?_
          case hy1300_38 => (intro w hSw; (try dsimp only at hSw); go_simp; first | done | with_reducible rfl)
          try simp only [Act.put, List.setIfInBounds_toArray, List.set_cons_zero, List.set_cons_succ]
          refine wpAnyH_take (i := 39) (oi := { dst := some 115, op := Go.Op.pick (Go.Operand.tmp 111) (Go.Operand.tmp 114) (Go.Operand.const (Go.Value.bool false)), type := 4, pos := "extra.go:40", after := #[{ on := 35, ground := Go.Ground.data }, { on := 38, ground := Go.Ground.data }], guard := none }) (v := ?v1300_39) rfl (by kernel_rfl) (by kernel_rfl) (by kernel_rfl) (fun _ _ _ h => h) (Or.inl ⟨by rfl, ?hy1300_39⟩) hHeld5 ?_
          case hy1300_39 => (intro w hSw; (try dsimp only at hSw); go_simp; first | done | with_reducible rfl)
          try simp only [Act.put, List.setIfInBounds_toArray, List.set_cons_zero, List.set_cons_succ]
          refine wpAnyH_take (i := 40) (oi := { dst := some 116, op := Go.Op.move (Go.Operand.tmp 115), type := 4, pos := "extra.go:40", after := #[{ on := 39, ground := Go.Ground.data }, { on := 35, ground := Go.Ground.chain }], guard := none }) (v := ?v1300_40) rfl (by kernel_rfl) (by kernel_rfl) (by kernel_rfl) (fun _ _ _ h => h) (Or.inl ⟨by rfl, ?hy1300_40⟩) hHeld5 ?_
          case hy1300_40 => (intro w hSw; (try dsimp only at hSw); go_simp; first | done | with_reducible rfl)
          try simp only [Act.put, List.setIfInBounds_toArray, List.set_cons_zero, List.set_cons_succ]
          refine wpAnyH_take (i := 41) (oi := { dst := some 117, op := Go.Op.move (Go.Operand.tmp 17), type := 31, pos := "extra.go:40", after := #[{ on := 40, ground := Go.Ground.guard }], guard := some (40, true) }) (v := ?v1300_41) rfl (by kernel_rfl) (by kernel_rfl) (by kernel_rfl) (fun _ _ _ h => h) (Or.inl ⟨by rfl, ?hy1300_41⟩) hHeld5 ?_
          case hy1300_41 => (intro w hSw; (try dsimp only at hSw); go_simp; first | done | with_reducible rfl)
          try simp only [Act.put, List.setIfInBounds_toArray, List.set_cons_zero, List.set_cons_succ]
          refine wpAnyH_take (i := 42) (oi := { dst := some 118, op := Go.Op.move (Go.Operand.tmp 19), type := 31, pos := "extra.go:40", after := #[{ on := 40, ground := Go.Ground.guard }], guard := some (40, true) }) (v := ?v1300_42) rfl (by kernel_rfl) (by kernel_rfl) (by kernel_rfl) (fun _ _ _ h => h) (Or.inl ⟨by rfl, ?hy1300_42⟩) hHeld5 ?_
          case hy1300_42 => (intro w hSw; (try dsimp only at hSw); go_simp; first | done | with_reducible rfl)
          try simp only [Act.put, List.setIfInBounds_toArray, List.set_cons_zero, List.set_cons_succ]
          refine wpAnyH_take (i := 43) (oi := { dst := some 119, op := Go.Op.binOp Go.BinOp.eql 31 (Go.Operand.tmp 117) (Go.Operand.tmp 118) 31, type := 4, pos := "extra.go:40", after := #[{ on := 41, ground := Go.Ground.data }, { on := 42, ground := Go.Ground.data }, { on := 40, ground := Go.Ground.guard }], guard := some (40, true) }) (v := ?v1300_43) rfl (by kernel_rfl) (by kernel_rfl) (by kernel_rfl) (fun _ _ _ h => h) (Or.inl ⟨by rfl, ?hy1300_43⟩) hHeld5 ?_
          case hy1300_43 => (intro w hSw; (try dsimp only at hSw); go_simp; first | done | with_reducible rfl)
          try simp only [Act.put, List.setIfInBounds_toArray, List.set_cons_zero, List.set_cons_succ]
          refine wpAnyH_take (i := 44) (oi := { dst := some 120, op := Go.Op.pick (Go.Operand.tmp 116) (Go.Operand.tmp 119) (Go.Operand.const (Go.Value.bool false)), type := 4, pos := "extra.go:40", after := #[{ on := 40, ground := Go.Ground.data }, { on := 43, ground := Go.Ground.data }], guard := none }) (v := ?v1300_44) rfl (by kernel_rfl) (by kernel_rfl) (by kernel_rfl) (fun _ _ _ h => h) (Or.inl ⟨by rfl, ?hy1300_44⟩) hHeld5 ?_
          case hy1300_44 => (intro w hSw; (try dsimp only at hSw); go_simp; first | done | with_reducible rfl)
          try simp only [Act.put, List.setIfInBounds_toArray, List.set_cons_zero, List.set_cons_succ]
          refine wpAnyH_take (i := 45) (oi := { dst := some 121, op := Go.Op.move (Go.Operand.tmp 120), type := 4, pos := "extra.go:40", after := #[{ on := 44, ground := Go.Ground.data }, { on := 40, ground := Go.Ground.chain }], guard := none }) (v := ?v1300_45) rfl (by kernel_rfl) (by kernel_rfl) (by kernel_rfl) (fun _ _ _ h => h) (Or.inl ⟨by rfl, ?hy1300_45⟩) hHeld5 ?_
          case hy1300_45 => (intro w hSw; (try dsimp only at hSw); go_simp; first | done | with_reducible rfl)
          try simp only [Act.put, List.setIfInBounds_toArray, List.set_cons_zero, List.set_cons_succ]
          refine wpAnyH_take (i := 46) (oi := { dst := some 122, op := Go.Op.move (Go.Operand.tmp 13), type := 31, pos := "extra.go:40", after := #[{ on := 45, ground := Go.Ground.guard }], guard := some (45, true) }) (v := ?v1300_46) rfl (by kernel_rfl) (by kernel_rfl) (by kernel_rfl) (fun _ _ _ h => h) (Or.inl ⟨by rfl, ?hy1300_46⟩) hHeld5 ?_
          case hy1300_46 => (intro w hSw; (try dsimp only at hSw); go_simp; first | done | with_reducible rfl)
          try simp only [Act.put, List.setIfInBounds_toArray, List.set_cons_zero, List.set_cons_succ]
          refine wpAnyH_take (i := 47) (oi := { dst := some 123, op := Go.Op.binOp Go.BinOp.neq 31 (Go.Operand.tmp 122) (Go.Operand.const (Go.Value.int Go.IntKind.i64 0)) 31, type := 4, pos := "extra.go:40", after := #[{ on := 46, ground := Go.Ground.data }, { on := 45, ground := Go.Ground.guard }], guard := some (45, true) }) (v := ?v1300_47) rfl (by kernel_rfl) (by kernel_rfl) (by kernel_rfl) (fun _ _ _ h => h) (Or.inl ⟨by rfl, ?hy1300_47⟩) hHeld5 ?_
          case hy1300_47 => (intro w hSw; (try dsimp only at hSw); go_simp; first | done | with_reducible rfl)
          try simp only [Act.put, List.setIfInBounds_toArray, List.set_cons_zero, List.set_cons_succ]
          refine wpAnyH_take (i := 48) (oi := { dst := some 124, op := Go.Op.move (Go.Operand.tmp 123), type := 4, pos := "extra.go:40", after := #[{ on := 47, ground := Go.Ground.data }, { on := 45, ground := Go.Ground.chain }, { on := 45, ground := Go.Ground.guard }], guard := some (45, true) }) (v := ?v1300_48) rfl (by kernel_rfl) (by kernel_rfl) (by kernel_rfl) (fun _ _ _ h => h) (Or.inl ⟨by rfl, ?hy1300_48⟩) hHeld5 ?_
          case hy1300_48 => (intro w hSw; (try dsimp only at hSw); go_simp; first | done | with_reducible rfl)
          try simp only [Act.put, List.setIfInBounds_toArray, List.set_cons_zero, List.set_cons_succ]
          refine wpAnyH_take (i := 49) (oi := { dst := some 125, op := Go.Op.load 24 (Go.Operand.tmp 14), type := 24, pos := "extra.go:40", after := #[{ on := 48, ground := Go.Ground.guard }], guard := some (48, false) }) (v := undef) rfl (by kernel_rfl) (by kernel_rfl) (by kernel_rfl) (fun _ _ _ h => h) (Or.inr ⟨by rfl, rfl⟩) hHeld5 ?_
          try simp only [Act.put, List.setIfInBounds_toArray, List.set_cons_zero, List.set_cons_succ]
          refine wpAnyH_take (i := 50) (oi := { dst := some 126, op := Go.Op.load 24 (Go.Operand.tmp 12), type := 24, pos := "extra.go:40", after := #[{ on := 48, ground := Go.Ground.guard }], guard := some (48, false) }) (v := undef) rfl (by kernel_rfl) (by kernel_rfl) (by kernel_rfl) (fun _ _ _ h => h) (Or.inr ⟨by rfl, rfl⟩) hHeld5 ?_
          try simp only [Act.put, List.setIfInBounds_toArray, List.set_cons_zero, List.set_cons_succ]
          refine wpAnyH_take (i := 51) (oi := { dst := some 127, op := Go.Op.call { callee := Go.Callee.value (Go.Operand.func 32), args := #[Go.Operand.tmp 126], argTypes := #[24] }, type := 24, pos := "extra.go:40", after := #[{ on := 50, ground := Go.Ground.data }, { on := 48, ground := Go.Ground.chain }, { on := 48, ground := Go.Ground.guard }], guard := some (48, false) }) (v := undef) rfl (by kernel_rfl) (by kernel_rfl) (by kernel_rfl) (fun _ _ _ h => h) (Or.inr ⟨by rfl, rfl⟩) hHeld5 ?_
          try simp only [Act.put, List.setIfInBounds_toArray, List.set_cons_zero, List.set_cons_succ]
          refine wpAnyH_take (i := 52) (oi := { dst := some 128, op := Go.Op.call { callee := Go.Callee.value (Go.Operand.func 30), args := #[Go.Operand.tmp 125, Go.Operand.tmp 127], argTypes := #[24, 24] }, type := 4, pos := "extra.go:40", after := #[{ on := 49, ground := Go.Ground.data }, { on := 51, ground := Go.Ground.data }, { on := 51, ground := Go.Ground.chain }, { on := 48, ground := Go.Ground.guard }], guard := some (48, false) }) (v := undef) rfl (by kernel_rfl) (by kernel_rfl) (by kernel_rfl) (fun _ _ _ h => h) (Or.inr ⟨by rfl, rfl⟩) hHeld5 ?_
          try simp only [Act.put, List.setIfInBounds_toArray, List.set_cons_zero, List.set_cons_succ]
          refine wpAnyH_take (i := 53) (oi := { dst := some 129, op := Go.Op.move (Go.Operand.tmp 128), type := 4, pos := "extra.go:40", after := #[{ on := 52, ground := Go.Ground.data }, { on := 52, ground := Go.Ground.chain }, { on := 48, ground := Go.Ground.guard }], guard := some (48, false) }) (v := undef) rfl (by kernel_rfl) (by kernel_rfl) (by kernel_rfl) (fun _ _ _ h => h) (Or.inr ⟨by rfl, rfl⟩) hHeld5 ?_
          try simp only [Act.put, List.setIfInBounds_toArray, List.set_cons_zero, List.set_cons_succ]
          refine wpAnyH_take (i := 54) (oi := { dst := some 130, op := Go.Op.load 24 (Go.Operand.tmp 18), type := 24, pos := "extra.go:40", after := #[{ on := 53, ground := Go.Ground.guard }], guard := some (53, true) }) (v := undef) rfl (by kernel_rfl) (by kernel_rfl) (by kernel_rfl) (fun _ _ _ h => h) (Or.inr ⟨by rfl, rfl⟩) hHeld5 ?_
          try simp only [Act.put, List.setIfInBounds_toArray, List.set_cons_zero, List.set_cons_succ]
          refine wpAnyH_take (i := 55) (oi := { dst := some 131, op := Go.Op.load 24 (Go.Operand.tmp 16), type := 24, pos := "extra.go:40", after := #[{ on := 53, ground := Go.Ground.guard }], guard := some (53, true) }) (v := undef) rfl (by kernel_rfl) (by kernel_rfl) (by kernel_rfl) (fun _ _ _ h => h) (Or.inr ⟨by rfl, rfl⟩) hHeld5 ?_
          try simp only [Act.put, List.setIfInBounds_toArray, List.set_cons_zero, List.set_cons_succ]
          refine wpAnyH_take (i := 56) (oi := { dst := some 132, op := Go.Op.call { callee := Go.Callee.value (Go.Operand.func 32), args := #[Go.Operand.tmp 131], argTypes := #[24] }, type := 24, pos := "extra.go:40", after := #[{ on := 55, ground := Go.Ground.data }, { on := 53, ground := Go.Ground.chain }, { on := 53, ground := Go.Ground.guard }], guard := some (53, true) }) (v := undef) rfl (by kernel_rfl) (by kernel_rfl) (by kernel_rfl) (fun _ _ _ h => h) (Or.inr ⟨by rfl, rfl⟩) hHeld5 ?_
          try simp only [Act.put, List.setIfInBounds_toArray, List.set_cons_zero, List.set_cons_succ]
          refine wpAnyH_take (i := 57) (oi := { dst := some 133, op := Go.Op.call { callee := Go.Callee.value (Go.Operand.func 30), args := #[Go.Operand.tmp 130, Go.Operand.tmp 132], argTypes := #[24, 24] }, type := 4, pos := "extra.go:40", after := #[{ on := 54, ground := Go.Ground.data }, { on := 56, ground := Go.Ground.data }, { on := 56, ground := Go.Ground.chain }, { on := 53, ground := Go.Ground.guard }], guard := some (53, true) }) (v := undef) rfl (by kernel_rfl) (by kernel_rfl) (by kernel_rfl) (fun _ _ _ h => h) (Or.inr ⟨by rfl, rfl⟩) hHeld5 ?_
          try simp only [Act.put, List.setIfInBounds_toArray, List.set_cons_zero, List.set_cons_succ]
          refine wpAnyH_take (i := 58) (oi := { dst := some 134, op := Go.Op.pick (Go.Operand.tmp 129) (Go.Operand.tmp 133) (Go.Operand.const (Go.Value.bool false)), type := 4, pos := "extra.go:40", after := #[{ on := 53, ground := Go.Ground.data }, { on := 57, ground := Go.Ground.data }, { on := 48, ground := Go.Ground.guard }], guard := some (48, false) }) (v := undef) rfl (by kernel_rfl) (by kernel_rfl) (by kernel_rfl) (fun _ _ _ h => h) (Or.inr ⟨by rfl, rfl⟩) hHeld5 ?_
          try simp only [Act.put, List.setIfInBounds_toArray, List.set_cons_zero, List.set_cons_succ]
          refine wpAnyH_take (i := 59) (oi := { dst := some 135, op := Go.Op.pick (Go.Operand.tmp 124) (Go.Operand.const (Go.Value.bool true)) (Go.Operand.tmp 134), type := 4, pos := "extra.go:40", after := #[{ on := 48, ground := Go.Ground.data }, { on := 58, ground := Go.Ground.data }, { on := 45, ground := Go.Ground.guard }], guard := some (45, true) }) (v := ?v1300_59) rfl (by kernel_rfl) (by kernel_rfl) (by kernel_rfl) (fun _ _ _ h => h) (Or.inl ⟨by rfl, ?hy1300_59⟩) hHeld5 ?_
          case hy1300_59 => (intro w hSw; (try dsimp only at hSw); go_simp; first | done | with_reducible rfl)
          try simp only [Act.put, List.setIfInBounds_toArray, List.set_cons_zero, List.set_cons_succ]
          refine wpAnyH_take (i := 60) (oi := { dst := some 136, op := Go.Op.pick (Go.Operand.tmp 121) (Go.Operand.tmp 135) (Go.Operand.const (Go.Value.bool false)), type := 4, pos := "extra.go:40", after := #[{ on := 45, ground := Go.Ground.data }, { on := 59, ground := Go.Ground.data }], guard := none }) (v := ?v1300_60) rfl (by kernel_rfl) (by kernel_rfl) (by kernel_rfl) (fun _ _ _ h => h) (Or.inl ⟨by rfl, ?hy1300_60⟩) hHeld5 ?_
          case hy1300_60 => (intro w hSw; (try dsimp only at hSw); go_simp; first | done | with_reducible rfl)
          try simp only [Act.put, List.setIfInBounds_toArray, List.set_cons_zero, List.set_cons_succ]
          refine wpAnyH_take (i := 61) (oi := { dst := some 4, op := Go.Op.assign (Go.Operand.tmp 136), type := 4, pos := "extra.go:40", after := #[{ on := 60, ground := Go.Ground.data }, { on := 57, ground := Go.Ground.chain }, { on := 0, ground := Go.Ground.phase }, { on := 1, ground := Go.Ground.phase }, { on := 2, ground := Go.Ground.phase }, { on := 3, ground := Go.Ground.phase }, { on := 4, ground := Go.Ground.phase }, { on := 5, ground := Go.Ground.phase }, { on := 6, ground := Go.Ground.phase }, { on := 7, ground := Go.Ground.phase }, { on := 8, ground := Go.Ground.phase }, { on := 9, ground := Go.Ground.phase }, { on := 10, ground := Go.Ground.phase }, { on := 11, ground := Go.Ground.phase }, { on := 12, ground := Go.Ground.phase }, { on := 13, ground := Go.Ground.phase }, { on := 14, ground := Go.Ground.phase }, { on := 15, ground := Go.Ground.phase }, { on := 16, ground := Go.Ground.phase }, { on := 17, ground := Go.Ground.phase }, { on := 18, ground := Go.Ground.phase }, { on := 19, ground := Go.Ground.phase }, { on := 20, ground := Go.Ground.phase }, { on := 21, ground := Go.Ground.phase }, { on := 22, ground := Go.Ground.phase }, { on := 23, ground := Go.Ground.phase }, { on := 24, ground := Go.Ground.phase }, { on := 25, ground := Go.Ground.phase }, { on := 26, ground := Go.Ground.phase }, { on := 27, ground := Go.Ground.phase }, { on := 28, ground := Go.Ground.phase }, { on := 29, ground := Go.Ground.phase }, { on := 30, ground := Go.Ground.phase }, { on := 31, ground := Go.Ground.phase }, { on := 32, ground := Go.Ground.phase }, { on := 33, ground := Go.Ground.phase }, { on := 34, ground := Go.Ground.phase }, { on := 35, ground := Go.Ground.phase }, { on := 36, ground := Go.Ground.phase }, { on := 37, ground := Go.Ground.phase }, { on := 38, ground := Go.Ground.phase }, { on := 39, ground := Go.Ground.phase }, { on := 40, ground := Go.Ground.phase }, { on := 41, ground := Go.Ground.phase }, { on := 42, ground := Go.Ground.phase }, { on := 43, ground := Go.Ground.phase }, { on := 44, ground := Go.Ground.phase }, { on := 45, ground := Go.Ground.phase }, { on := 46, ground := Go.Ground.phase }, { on := 47, ground := Go.Ground.phase }, { on := 48, ground := Go.Ground.phase }, { on := 49, ground := Go.Ground.phase }, { on := 50, ground := Go.Ground.phase }, { on := 51, ground := Go.Ground.phase }, { on := 52, ground := Go.Ground.phase }, { on := 53, ground := Go.Ground.phase }, { on := 54, ground := Go.Ground.phase }, { on := 55, ground := Go.Ground.phase }, { on := 56, ground := Go.Ground.phase }, { on := 57, ground := Go.Ground.phase }, { on := 58, ground := Go.Ground.phase }, { on := 59, ground := Go.Ground.phase }, { on := 60, ground := Go.Ground.phase }], guard := none }) (v := ?v1300_61) rfl (by kernel_rfl) (by kernel_rfl) (by kernel_rfl) (fun _ _ _ h => h) (Or.inl ⟨by rfl, ?hy1300_61⟩) hHeld5 ?_
          case hy1300_61 => (intro w hSw; (try dsimp only at hSw); go_simp; first | done | with_reducible rfl)
          try simp only [Act.put, List.setIfInBounds_toArray, List.set_cons_zero, List.set_cons_succ]
          refine wpAnyH_done (by kernel_rfl) ?_ _
          refine NoPanic.normal ?_
          go_wp2_with fail
          go_returns
          refine ⟨by simp, ?_⟩
          repeat' (first | exact HP2.out | exact Plus.refl _ | refine Plus.alloc ?_ _ | refine Plus.plus ?_ _ | refine Plus.drew ?_ | refine Plus.drewN ?_ _)
    · rcases her.out with hz | hz
      · as_aux_lemma =>
          replace e3 : Hid (SameI q np true) := Lib.hid (e3.out rfl)
          subst hz
          replace e4 : Hid (SameI y nx true) := Lib.hid (e4.out rfl)
          replace e5 : Hid (SameI t nr true) := Lib.hid (e5.out rfl)
          go_upto_region 13 with fail
          refine wp_region_noPanic ?_
          refine wp_region_held_drew (S := (fun w' => w'.cell? ⟨w.heap.size, 0, none⟩ = some (.bool an) ∧ w'.cell? ⟨w.heap.size, 1, none⟩ = some (.slice A n c) ∧ w'.cell? ⟨k5, 0, none⟩ = some (.bool b1) ∧ w'.cell? ⟨k5, 1, none⟩ = some (.slice A1 u1.length c1) ∧ w'.cell? ⟨k6, 0, none⟩ = some (.bool b2) ∧ w'.cell? ⟨k6, 1, none⟩ = some (.slice A2 u2.length c2) ∧ w'.cell? ⟨k8, 0, none⟩ = some (.bool b3) ∧ w'.cell? ⟨k8, 1, none⟩ = some (.slice A3 u3.length c3) ∧ w'.cell? ⟨k10, 0, none⟩ = some (.bool b4) ∧ w'.cell? ⟨k10, 1, none⟩ = some (.slice A4 u4.length c4) ∧ w'.cell? ⟨k12, 0, none⟩ = some (.bool b5) ∧ w'.cell? ⟨k12, 1, none⟩ = some (.slice A5 u5.length c5) ∧ w'.cell? ⟨k14, 0, none⟩ = some (.bool b6) ∧ w'.cell? ⟨k14, 1, none⟩ = some (.slice A6 u6.length c6) ∧ w'.cell? ⟨k16, 0, none⟩ = some (.bool b7) ∧ w'.cell? ⟨k16, 1, none⟩ = some (.slice A7 u7.length c7) ∧ w'.cell? ⟨k18, 0, none⟩ = some (.bool b9) ∧ w'.cell? ⟨k18, 1, none⟩ = some (.slice A9 u9.length c9))) (by kernel_rfl) (by (refine ⟨?_, ?_, ?_, ?_, ?_, ?_, ?_, ?_, ?_, ?_, ?_, ?_, ?_, ?_, ?_, ?_, ?_, ?_⟩ <;> simp [go_sem, z2_0, z2_1, z5_0, z5_1, z6_0, z6_1, z8_0, z8_1, z10_0, z10_1, z12_0, z12_1, z14_0, z14_1, z16_0, z16_1, z18_0, z18_1])) (fun hHeld => ?_)
          refine wpAnyH_ready (rs := [0]) (by kernel_rfl) (by simp) ?_
          refine AllReadyH.cons (o := { dst := some 76, op := Go.Op.call { callee := Go.Callee.value (Go.Operand.func 14), args := #[], argTypes := #[] }, type := 4, pos := "extra.go:40", after := #[], guard := none }) rfl (fun K hK => ?_) AllReadyH.nil
          go_simp
          (with_reducible refine (first_c _).mono ?_); rintro e w1 ⟨rfl, ⟨z0, rfl⟩⟩
          go_wp2_with fail
          refine hK.out _ _ (by (try dsimp only); (refine ⟨?_, ?_, ?_, ?_, ?_, ?_, ?_, ?_, ?_, ?_, ?_, ?_, ?_, ?_, ?_, ?_, ?_, ?_⟩ <;> simp [go_sem, z2_0, z2_1, z5_0, z5_1, z6_0, z6_1, z8_0, z8_1, z10_0, z10_1, z12_0, z12_1, z14_0, z14_1, z16_0, z16_1, z18_0, z18_1])) (fun hHeld1 => ?_)
          clear hK K hHeld
          try simp only [Act.put, List.setIfInBounds_toArray, List.set_cons_zero, List.set_cons_succ]
          refine wpAnyH_take (i := 1) (oi := { dst := some 77, op := Go.Op.move (Go.Operand.tmp 76), type := 4, pos := "extra.go:40", after := #[{ on := 0, ground := Go.Ground.data }, { on := 0, ground := Go.Ground.chain }], guard := none }) (v := ?v1311_1) rfl (by kernel_rfl) (by kernel_rfl) (by kernel_rfl) (fun _ _ _ h => h) (Or.inl ⟨by rfl, ?hy1311_1⟩) hHeld1 ?_
          case hy1311_1 => (intro w hSw; (try dsimp only at hSw); go_simp; first | done | with_reducible rfl)
          try simp only [Act.put, List.setIfInBounds_toArray, List.set_cons_zero, List.set_cons_succ]
          refine wpAnyH_take (i := 2) (oi := { dst := some 78, op := Go.Op.load 24 (Go.Operand.tmp 5), type := 24, pos := "extra.go:40", after := #[{ on := 1, ground := Go.Ground.guard }], guard := some (1, true) }) (v := ?v1311_2) rfl (by kernel_rfl) (by kernel_rfl) (by kernel_rfl) (fun _ _ _ h => h) (Or.inl ⟨by rfl, ?hy1311_2⟩) hHeld1 ?_
          case hy1311_2 => (intro w hSw; (try dsimp only at hSw); go_simp; first | done | with_reducible rfl)
          try simp only [Act.put, List.setIfInBounds_toArray, List.set_cons_zero, List.set_cons_succ]
          refine wpAnyH_take (i := 4) (oi := { dst := some 80, op := Go.Op.load 24 (Go.Operand.tmp 2), type := 24, pos := "extra.go:40", after := #[{ on := 1, ground := Go.Ground.guard }], guard := some (1, true) }) (v := ?v1311_4) rfl (by kernel_rfl) (by kernel_rfl) (by kernel_rfl) (fun _ _ _ h => h) (Or.inl ⟨by rfl, ?hy1311_4⟩) hHeld1 ?_
          case hy1311_4 => (intro w hSw; (try dsimp only at hSw); go_simp; first | done | with_reducible rfl)
          try simp only [Act.put, List.setIfInBounds_toArray, List.set_cons_zero, List.set_cons_succ]
          refine wpAnyH_ready (rs := [3]) (by kernel_rfl) (by simp) ?_
          refine AllReadyH.cons (o := { dst := some 79, op := Go.Op.call { callee := Go.Callee.value (Go.Operand.func 32), args := #[Go.Operand.tmp 78], argTypes := #[24] }, type := 24, pos := "extra.go:40", after := #[{ on := 2, ground := Go.Ground.data }, { on := 1, ground := Go.Ground.chain }, { on := 1, ground := Go.Ground.guard }], guard := some (1, true) }) rfl (fun K hK => ?_) AllReadyH.nil
          go_simp
          (with_reducible refine (neg_n g1 h10 _ (H1.out.plus (by repeat' (first | exact Plus.refl _ | refine Plus.alloc ?_ _ | refine Plus.plus ?_ _ | refine Plus.drew ?_ | refine Plus.drewN ?_ _)))).mono ?_); rintro e w1 ⟨A10, c10, rfl, a10, ⟨x10, rfl⟩⟩; (try simp only [plus_drew] at a10); replace a10 := Lib.hid a10
          go_wp2_with fail
          refine hK.out _ _ (by (try dsimp only); (refine ⟨?_, ?_, ?_, ?_, ?_, ?_, ?_, ?_, ?_, ?_, ?_, ?_, ?_, ?_, ?_, ?_, ?_, ?_⟩ <;> simp [go_sem, z2_0, z2_1, z5_0, z5_1, z6_0, z6_1, z8_0, z8_1, z10_0, z10_1, z12_0, z12_1, z14_0, z14_1, z16_0, z16_1, z18_0, z18_1])) (fun hHeld2 => ?_)
          clear hK K hHeld1
          try simp only [Act.put, List.setIfInBounds_toArray, List.set_cons_zero, List.set_cons_succ]
          refine wpAnyH_ready (rs := [5]) (by kernel_rfl) (by simp) ?_
          refine AllReadyH.cons (o := { dst := some 81, op := Go.Op.call { callee := Go.Callee.value (Go.Operand.func 30), args := #[Go.Operand.tmp 79, Go.Operand.tmp 80], argTypes := #[24, 24] }, type := 4, pos := "extra.go:40", after := #[{ on := 3, ground := Go.Ground.data }, { on := 4, ground := Go.Ground.data }, { on := 3, ground := Go.Ground.chain }, { on := 1, ground := Go.Ground.guard }], guard := some (1, true) }) rfl (fun K hK => ?_) AllReadyH.nil
          go_simp
          (with_reducible refine (same_o g10 hA e1 _ (a10.out.plus (by repeat' (first | exact Plus.refl _ | refine Plus.alloc ?_ _ | refine Plus.plus ?_ _ | refine Plus.drew ?_ | refine Plus.drewN ?_ _))) (HAw.out.plus (by repeat' (first | exact Plus.refl _ | refine Plus.alloc ?_ _ | refine Plus.plus ?_ _ | refine Plus.drew ?_ | refine Plus.drewN ?_ _)))).mono ?_); rintro e w1 ⟨rfl, ⟨z1, rfl⟩⟩
          go_wp2_with fail
          refine hK.out _ _ (by (try dsimp only); (refine ⟨?_, ?_, ?_, ?_, ?_, ?_, ?_, ?_, ?_, ?_, ?_, ?_, ?_, ?_, ?_, ?_, ?_, ?_⟩ <;> simp [go_sem, z2_0, z2_1, z5_0, z5_1, z6_0, z6_1, z8_0, z8_1, z10_0, z10_1, z12_0, z12_1, z14_0, z14_1, z16_0, z16_1, z18_0, z18_1])) (fun hHeld3 => ?_)
          clear hK K hHeld2
          try simp only [Act.put, List.setIfInBounds_toArray, List.set_cons_zero, List.set_cons_succ]
          refine wpAnyH_take (i := 6) (oi := { dst := some 82, op := Go.Op.pick (Go.Operand.tmp 77) (Go.Operand.tmp 81) (Go.Operand.const (Go.Value.bool false)), type := 4, pos := "extra.go:40", after := #[{ on := 1, ground := Go.Ground.data }, { on := 5, ground := Go.Ground.data }], guard := none }) (v := ?v1311_6) rfl (by kernel_rfl) (by kernel_rfl) (by kernel_rfl) (fun _ _ _ h => h) (Or.inl ⟨by rfl, ?hy1311_6⟩) hHeld3 ?_
          case hy1311_6 => (intro w hSw; (try dsimp only at hSw); go_simp; first | done | with_reducible rfl)
          try simp only [Act.put, List.setIfInBounds_toArray, List.set_cons_zero, List.set_cons_succ]
          refine wpAnyH_take (i := 7) (oi := { dst := some 83, op := Go.Op.move (Go.Operand.tmp 82), type := 4, pos := "extra.go:40", after := #[{ on := 6, ground := Go.Ground.data }, { on := 5, ground := Go.Ground.chain }], guard := none }) (v := ?v1311_7) rfl (by kernel_rfl) (by kernel_rfl) (by kernel_rfl) (fun _ _ _ h => h) (Or.inl ⟨by rfl, ?hy1311_7⟩) hHeld3 ?_
          case hy1311_7 => (intro w hSw; (try dsimp only at hSw); go_simp; first | done | with_reducible rfl)
          try simp only [Act.put, List.setIfInBounds_toArray, List.set_cons_zero, List.set_cons_succ]
          refine wpAnyH_take (i := 8) (oi := { dst := some 84, op := Go.Op.move (Go.Operand.tmp 7), type := 4, pos := "extra.go:40", after := #[{ on := 7, ground := Go.Ground.guard }], guard := some (7, true) }) (v := ?v1311_8) rfl (by kernel_rfl) (by kernel_rfl) (by kernel_rfl) (fun _ _ _ h => h) (Or.inl ⟨by rfl, ?hy1311_8⟩) hHeld3 ?_
          case hy1311_8 => (intro w hSw; (try dsimp only at hSw); go_simp; first | done | with_reducible rfl)
          try simp only [Act.put, List.setIfInBounds_toArray, List.set_cons_zero, List.set_cons_succ]
          refine wpAnyH_take (i := 9) (oi := { dst := some 85, op := Go.Op.pick (Go.Operand.tmp 83) (Go.Operand.tmp 84) (Go.Operand.const (Go.Value.bool false)), type := 4, pos := "extra.go:40", after := #[{ on := 7, ground := Go.Ground.data }, { on := 8, ground := Go.Ground.data }], guard := none }) (v := ?v1311_9) rfl (by kernel_rfl) (by kernel_rfl) (by kernel_rfl) (fun _ _ _ h => h) (Or.inl ⟨by rfl, ?hy1311_9⟩) hHeld3 ?_
          case hy1311_9 => (intro w hSw; (try dsimp only at hSw); go_simp; first | done | with_reducible rfl)
          try simp only [Act.put, List.setIfInBounds_toArray, List.set_cons_zero, List.set_cons_succ]
          refine wpAnyH_take (i := 10) (oi := { dst := some 86, op := Go.Op.move (Go.Operand.tmp 85), type := 4, pos := "extra.go:40", after := #[{ on := 9, ground := Go.Ground.data }, { on := 7, ground := Go.Ground.chain }], guard := none }) (v := ?v1311_10) rfl (by kernel_rfl) (by kernel_rfl) (by kernel_rfl) (fun _ _ _ h => h) (Or.inl ⟨by rfl, ?hy1311_10⟩) hHeld3 ?_
          case hy1311_10 => (intro w hSw; (try dsimp only at hSw); go_simp; first | done | with_reducible rfl)
          try simp only [Act.put, List.setIfInBounds_toArray, List.set_cons_zero, List.set_cons_succ]
          refine wpAnyH_take (i := 11) (oi := { dst := some 87, op := Go.Op.load 24 (Go.Operand.tmp 6), type := 24, pos := "extra.go:40", after := #[{ on := 10, ground := Go.Ground.guard }], guard := some (10, true) }) (v := ?v1311_11) rfl (by kernel_rfl) (by kernel_rfl) (by kernel_rfl) (fun _ _ _ h => h) (Or.inl ⟨by rfl, ?hy1311_11⟩) hHeld3 ?_
          case hy1311_11 => (intro w hSw; (try dsimp only at hSw); go_simp; first | done | with_reducible rfl)
          try simp only [Act.put, List.setIfInBounds_toArray, List.set_cons_zero, List.set_cons_succ]
          refine wpAnyH_ready (rs := [12]) (by kernel_rfl) (by simp) ?_
          refine AllReadyH.cons (o := { dst := some 88, op := Go.Op.call { callee := Go.Callee.value (Go.Operand.func 44), args := #[Go.Operand.const (Go.Value.int Go.IntKind.i64 0)], argTypes := #[3] }, type := 24, pos := "extra.go:40", after := #[{ on := 10, ground := Go.Ground.chain }, { on := 10, ground := Go.Ground.guard }], guard := some (10, true) }) rfl (fun K hK => ?_) AllReadyH.nil
          go_simp
          (with_reducible refine (of_n h11 _).mono ?_); rintro e w1 ⟨A11, c11, rfl, a11, ⟨x11, rfl⟩⟩; (try simp only [plus_drew] at a11); replace a11 := Lib.hid a11
          go_wp2_with fail
          refine hK.out _ _ (by (try dsimp only); (refine ⟨?_, ?_, ?_, ?_, ?_, ?_, ?_, ?_, ?_, ?_, ?_, ?_, ?_, ?_, ?_, ?_, ?_, ?_⟩ <;> simp [go_sem, z2_0, z2_1, z5_0, z5_1, z6_0, z6_1, z8_0, z8_1, z10_0, z10_1, z12_0, z12_1, z14_0, z14_1, z16_0, z16_1, z18_0, z18_1])) (fun hHeld4 => ?_)
          clear hK K hHeld3
          try simp only [Act.put, List.setIfInBounds_toArray, List.set_cons_zero, List.set_cons_succ]
          refine wpAnyH_ready (rs := [13]) (by kernel_rfl) (by simp) ?_
          refine AllReadyH.cons (o := { dst := some 89, op := Go.Op.call { callee := Go.Callee.value (Go.Operand.func 30), args := #[Go.Operand.tmp 87, Go.Operand.tmp 88], argTypes := #[24, 24] }, type := 4, pos := "extra.go:40", after := #[{ on := 11, ground := Go.Ground.data }, { on := 12, ground := Go.Ground.data }, { on := 12, ground := Go.Ground.chain }, { on := 10, ground := Go.Ground.guard }], guard := some (10, true) }) rfl (fun K hK => ?_) AllReadyH.nil
          go_simp
          (with_reducible refine (same_o g2 g11 e2 _ (H2.out.plus (by repeat' (first | exact Plus.refl _ | refine Plus.alloc ?_ _ | refine Plus.plus ?_ _ | refine Plus.drew ?_ | refine Plus.drewN ?_ _))) (a11.out.plus (by repeat' (first | exact Plus.refl _ | refine Plus.alloc ?_ _ | refine Plus.plus ?_ _ | refine Plus.drew ?_ | refine Plus.drewN ?_ _)))).mono ?_); rintro e w1 ⟨rfl, ⟨z2, rfl⟩⟩
          go_wp2_with fail
          refine hK.out _ _ (by (try dsimp only); (refine ⟨?_, ?_, ?_, ?_, ?_, ?_, ?_, ?_, ?_, ?_, ?_, ?_, ?_, ?_, ?_, ?_, ?_, ?_⟩ <;> simp [go_sem, z2_0, z2_1, z5_0, z5_1, z6_0, z6_1, z8_0, z8_1, z10_0, z10_1, z12_0, z12_1, z14_0, z14_1, z16_0, z16_1, z18_0, z18_1])) (fun hHeld5 => ?_)
          clear hK K hHeld4
          try simp only [Act.put, List.setIfInBounds_toArray, List.set_cons_zero, List.set_cons_succ]
          refine wpAnyH_take (i := 14) (oi := { dst := some 90, op := Go.Op.pick (Go.Operand.tmp 86) (Go.Operand.tmp 89) (Go.Operand.const (Go.Value.bool false)), type := 4, pos := "extra.go:40", after := #[{ on := 10, ground := Go.Ground.data }, { on := 13, ground := Go.Ground.data }], guard := none }) (v := ?v1311_14) rfl (by kernel_rfl) (by kernel_rfl) (by kernel_rfl) (fun _ _ _ h => h) (Or.inl ⟨by rfl, ?hy1311_14⟩) hHeld5 ?_
          case hy1311_14 => (intro w hSw; (try dsimp only at hSw); go_simp; first | done | with_reducible rfl)
          try simp only [Act.put, List.setIfInBounds_toArray, List.set_cons_zero, List.set_cons_succ]
          refine wpAnyH_take (i := 15) (oi := { dst := some 91, op := Go.Op.move (Go.Operand.tmp 90), type := 4, pos := "extra.go:40", after := #[{ on := 14, ground := Go.Ground.data }, { on := 13, ground := Go.Ground.chain }], guard := none }) (v := ?v1311_15) rfl (by kernel_rfl) (by kernel_rfl) (by kernel_rfl) (fun _ _ _ h => h) (Or.inl ⟨by rfl, ?hy1311_15⟩) hHeld5 ?_
          case hy1311_15 => (intro w hSw; (try dsimp only at hSw); go_simp; first | done | with_reducible rfl)
          try simp only [Act.put, List.setIfInBounds_toArray, List.set_cons_zero, List.set_cons_succ]
          refine wpAnyH_take (i := 16) (oi := { dst := some 92, op := Go.Op.move (Go.Operand.tmp 9), type := 4, pos := "extra.go:40", after := #[{ on := 15, ground := Go.Ground.guard }], guard := some (15, true) }) (v := ?v1311_16) rfl (by kernel_rfl) (by kernel_rfl) (by kernel_rfl) (fun _ _ _ h => h) (Or.inl ⟨by rfl, ?hy1311_16⟩) hHeld5 ?_
          case hy1311_16 => (intro w hSw; (try dsimp only at hSw); go_simp; first | done | with_reducible rfl)
          try simp only [Act.put, List.setIfInBounds_toArray, List.set_cons_zero, List.set_cons_succ]
          refine wpAnyH_take (i := 17) (oi := { dst := some 93, op := Go.Op.move (Go.Operand.tmp 11), type := 4, pos := "extra.go:40", after := #[{ on := 15, ground := Go.Ground.guard }], guard := some (15, true) }) (v := ?v1311_17) rfl (by kernel_rfl) (by kernel_rfl) (by kernel_rfl) (fun _ _ _ h => h) (Or.inl ⟨by rfl, ?hy1311_17⟩) hHeld5 ?_
          case hy1311_17 => (intro w hSw; (try dsimp only at hSw); go_simp; first | done | with_reducible rfl)
          try simp only [Act.put, List.setIfInBounds_toArray, List.set_cons_zero, List.set_cons_succ]
          refine wpAnyH_take (i := 18) (oi := { dst := some 94, op := Go.Op.binOp Go.BinOp.eql 4 (Go.Operand.tmp 92) (Go.Operand.tmp 93) 4, type := 4, pos := "extra.go:40", after := #[{ on := 16, ground := Go.Ground.data }, { on := 17, ground := Go.Ground.data }, { on := 15, ground := Go.Ground.guard }], guard := some (15, true) }) (v := ?v1311_18) rfl (by kernel_rfl) (by kernel_rfl) (by kernel_rfl) (fun _ _ _ h => h) (Or.inl ⟨by rfl, ?hy1311_18⟩) hHeld5 ?_
          case hy1311_18 => (intro w hSw; (try dsimp only at hSw); go_simp; first | done | with_reducible rfl)
          try simp only [Act.put, List.setIfInBounds_toArray, List.set_cons_zero, List.set_cons_succ]
          refine wpAnyH_take (i := 19) (oi := { dst := some 95, op := Go.Op.pick (Go.Operand.tmp 91) (Go.Operand.tmp 94) (Go.Operand.const (Go.Value.bool false)), type := 4, pos := "extra.go:40", after := #[{ on := 15, ground := Go.Ground.data }, { on := 18, ground := Go.Ground.data }], guard := none }) (v := ?v1311_19) rfl (by kernel_rfl) (by kernel_rfl) (by kernel_rfl) (fun _ _ _ h => h) (Or.inl ⟨by rfl, ?hy1311_19⟩) hHeld5 ?_
          case hy1311_19 => (intro w hSw; (try dsimp only at hSw); go_simp; first | done | with_reducible rfl)
          try simp only [Act.put, List.setIfInBounds_toArray, List.set_cons_zero, List.set_cons_succ]
          refine wpAnyH_take (i := 20) (oi := { dst := some 96, op := Go.Op.move (Go.Operand.tmp 95), type := 4, pos := "extra.go:40", after := #[{ on := 19, ground := Go.Ground.data }, { on := 15, ground := Go.Ground.chain }], guard := none }) (v := ?v1311_20) rfl (by kernel_rfl) (by kernel_rfl) (by kernel_rfl) (fun _ _ _ h => h) (Or.inl ⟨by rfl, ?hy1311_20⟩) hHeld5 ?_
          case hy1311_20 => (intro w hSw; (try dsimp only at hSw); go_simp; first | done | with_reducible rfl)
          try simp only [Act.put, List.setIfInBounds_toArray, List.set_cons_zero, List.set_cons_succ]
          refine wpAnyH_take (i := 21) (oi := { dst := some 97, op := Go.Op.move (Go.Operand.tmp 9), type := 4, pos := "extra.go:40", after := #[{ on := 20, ground := Go.Ground.guard }], guard := some (20, true) }) (v := ?v1311_21) rfl (by kernel_rfl) (by kernel_rfl) (by kernel_rfl) (fun _ _ _ h => h) (Or.inl ⟨by rfl, ?hy1311_21⟩) hHeld5 ?_
          case hy1311_21 => (intro w hSw; (try dsimp only at hSw); go_simp; first | done | with_reducible rfl)
          try simp only [Act.put, List.setIfInBounds_toArray, List.set_cons_zero, List.set_cons_succ]
          refine wpAnyH_take (i := 22) (oi := { dst := some 98, op := Go.Op.unOp Go.UnOp.not 4 (Go.Operand.tmp 97), type := 4, pos := "extra.go:40", after := #[{ on := 21, ground := Go.Ground.data }, { on := 20, ground := Go.Ground.guard }], guard := some (20, true) }) (v := ?v1311_22) rfl (by kernel_rfl) (by kernel_rfl) (by kernel_rfl) (fun _ _ _ h => h) (Or.inl ⟨by rfl, ?hy1311_22⟩) hHeld5 ?_
          case hy1311_22 => (intro w hSw; (try dsimp only at hSw); go_simp; first | done | with_reducible rfl)
          try simp only [Act.put, List.setIfInBounds_toArray, List.set_cons_zero, List.set_cons_succ]
          refine wpAnyH_take (i := 23) (oi := { dst := some 99, op := Go.Op.move (Go.Operand.tmp 98), type := 4, pos := "extra.go:40", after := #[{ on := 22, ground := Go.Ground.data }, { on := 20, ground := Go.Ground.chain }, { on := 20, ground := Go.Ground.guard }], guard := some (20, true) }) (v := ?v1311_23) rfl (by kernel_rfl) (by kernel_rfl) (by kernel_rfl) (fun _ _ _ h => h) (Or.inl ⟨by rfl, ?hy1311_23⟩) hHeld5 ?_
          case hy1311_23 => (intro w hSw; (try dsimp only at hSw); go_simp; first | done | with_reducible rfl)
          try simp only [Act.put, List.setIfInBounds_toArray, List.set_cons_zero, List.set_cons_succ]
          refine wpAnyH_take (i := 24) (oi := { dst := some 100, op := Go.Op.load 24 (Go.Operand.tmp 10), type := 24, pos := "extra.go:40", after := #[{ on := 23, ground := Go.Ground.guard }], guard := some (23, false) }) (v := ?v1311_24) rfl (by kernel_rfl) (by kernel_rfl) (by kernel_rfl) (fun _ _ _ h => h) (Or.inl ⟨by rfl, ?hy1311_24⟩) hHeld5 ?_
          case hy1311_24 => (intro w hSw; (try dsimp only at hSw); go_simp; first | done | with_reducible rfl)
          try simp only [Act.put, List.setIfInBounds_toArray, List.set_cons_zero, List.set_cons_succ]
          refine wpAnyH_take (i := 25) (oi := { dst := some 101, op := Go.Op.load 24 (Go.Operand.tmp 8), type := 24, pos := "extra.go:40", after := #[{ on := 23, ground := Go.Ground.guard }], guard := some (23, false) }) (v := ?v1311_25) rfl (by kernel_rfl) (by kernel_rfl) (by kernel_rfl) (fun _ _ _ h => h) (Or.inl ⟨by rfl, ?hy1311_25⟩) hHeld5 ?_
          case hy1311_25 => (intro w hSw; (try dsimp only at hSw); go_simp; first | done | with_reducible rfl)
          try simp only [Act.put, List.setIfInBounds_toArray, List.set_cons_zero, List.set_cons_succ]
          refine wpAnyH_ready (rs := [26]) (by kernel_rfl) (by simp) ?_
          refine AllReadyH.cons (o := { dst := some 102, op := Go.Op.call { callee := Go.Callee.value (Go.Operand.func 32), args := #[Go.Operand.tmp 101], argTypes := #[24] }, type := 24, pos := "extra.go:40", after := #[{ on := 25, ground := Go.Ground.data }, { on := 23, ground := Go.Ground.chain }, { on := 23, ground := Go.Ground.guard }], guard := some (23, false) }) rfl (fun K hK => ?_) AllReadyH.nil
          go_simp
          (with_reducible refine (neg_n g3 h12 _ (H3.out.plus (by repeat' (first | exact Plus.refl _ | refine Plus.alloc ?_ _ | refine Plus.plus ?_ _ | refine Plus.drew ?_ | refine Plus.drewN ?_ _)))).mono ?_); rintro e w1 ⟨A12, c12, rfl, a12, ⟨x12, rfl⟩⟩; (try simp only [plus_drew] at a12); replace a12 := Lib.hid a12
          go_wp2_with fail
          refine hK.out _ _ (by (try dsimp only); (refine ⟨?_, ?_, ?_, ?_, ?_, ?_, ?_, ?_, ?_, ?_, ?_, ?_, ?_, ?_, ?_, ?_, ?_, ?_⟩ <;> simp [go_sem, z2_0, z2_1, z5_0, z5_1, z6_0, z6_1, z8_0, z8_1, z10_0, z10_1, z12_0, z12_1, z14_0, z14_1, z16_0, z16_1, z18_0, z18_1])) (fun hHeld6 => ?_)
          clear hK K hHeld5
          try simp only [Act.put, List.setIfInBounds_toArray, List.set_cons_zero, List.set_cons_succ]
          refine wpAnyH_ready (rs := [27]) (by kernel_rfl) (by simp) ?_
          refine AllReadyH.cons (o := { dst := some 103, op := Go.Op.call { callee := Go.Callee.value (Go.Operand.func 30), args := #[Go.Operand.tmp 100, Go.Operand.tmp 102], argTypes := #[24, 24] }, type := 4, pos := "extra.go:40", after := #[{ on := 24, ground := Go.Ground.data }, { on := 26, ground := Go.Ground.data }, { on := 26, ground := Go.Ground.chain }, { on := 23, ground := Go.Ground.guard }], guard := some (23, false) }) rfl (fun K hK => ?_) AllReadyH.nil
          go_simp
          (with_reducible refine (same_o g4 g12 e3 _ (H4.out.plus (by repeat' (first | exact Plus.refl _ | refine Plus.alloc ?_ _ | refine Plus.plus ?_ _ | refine Plus.drew ?_ | refine Plus.drewN ?_ _))) (a12.out.plus (by repeat' (first | exact Plus.refl _ | refine Plus.alloc ?_ _ | refine Plus.plus ?_ _ | refine Plus.drew ?_ | refine Plus.drewN ?_ _)))).mono ?_); rintro e w1 ⟨rfl, ⟨z3, rfl⟩⟩
          go_wp2_with fail
          refine hK.out _ _ (by (try dsimp only); (refine ⟨?_, ?_, ?_, ?_, ?_, ?_, ?_, ?_, ?_, ?_, ?_, ?_, ?_, ?_, ?_, ?_, ?_, ?_⟩ <;> simp [go_sem, z2_0, z2_1, z5_0, z5_1, z6_0, z6_1, z8_0, z8_1, z10_0, z10_1, z12_0, z12_1, z14_0, z14_1, z16_0, z16_1, z18_0, z18_1])) (fun hHeld7 => ?_)
          clear hK K hHeld6
          try simp only [Act.put, List.setIfInBounds_toArray, List.set_cons_zero, List.set_cons_succ]
          refine wpAnyH_take (i := 28) (oi := { dst := some 104, op := Go.Op.pick (Go.Operand.tmp 99) (Go.Operand.const (Go.Value.bool true)) (Go.Operand.tmp 103), type := 4, pos := "extra.go:40", after := #[{ on := 23, ground := Go.Ground.data }, { on := 27, ground := Go.Ground.data }, { on := 20, ground := Go.Ground.guard }], guard := some (20, true) }) (v := ?v1311_28) rfl (by kernel_rfl) (by kernel_rfl) (by kernel_rfl) (fun _ _ _ h => h) (Or.inl ⟨by rfl, ?hy1311_28⟩) hHeld7 ?_
          case hy1311_28 => (intro w hSw; (try dsimp only at hSw); go_simp; first | done | with_reducible rfl)
          try simp only [Act.put, List.setIfInBounds_toArray, List.set_cons_zero, List.set_cons_succ]
          refine wpAnyH_take (i := 29) (oi := { dst := some 105, op := Go.Op.pick (Go.Operand.tmp 96) (Go.Operand.tmp 104) (Go.Operand.const (Go.Value.bool false)), type := 4, pos := "extra.go:40", after := #[{ on := 20, ground := Go.Ground.data }, { on := 28, ground := Go.Ground.data }], guard := none }) (v := ?v1311_29) rfl (by kernel_rfl) (by kernel_rfl) (by kernel_rfl) (fun _ _ _ h => h) (Or.inl ⟨by rfl, ?hy1311_29⟩) hHeld7 ?_
          case hy1311_29 => (intro w hSw; (try dsimp only at hSw); go_simp; first | done | with_reducible rfl)
          try simp only [Act.put, List.setIfInBounds_toArray, List.set_cons_zero, List.set_cons_succ]
          refine wpAnyH_take (i := 30) (oi := { dst := some 106, op := Go.Op.move (Go.Operand.tmp 105), type := 4, pos := "extra.go:40", after := #[{ on := 29, ground := Go.Ground.data }, { on := 27, ground := Go.Ground.chain }], guard := none }) (v := ?v1311_30) rfl (by kernel_rfl) (by kernel_rfl) (by kernel_rfl) (fun _ _ _ h => h) (Or.inl ⟨by rfl, ?hy1311_30⟩) hHeld7 ?_
          case hy1311_30 => (intro w hSw; (try dsimp only at hSw); go_simp; first | done | with_reducible rfl)
          try simp only [Act.put, List.setIfInBounds_toArray, List.set_cons_zero, List.set_cons_succ]
          refine wpAnyH_take (i := 31) (oi := { dst := some 107, op := Go.Op.move (Go.Operand.tmp 13), type := 31, pos := "extra.go:40", after := #[{ on := 30, ground := Go.Ground.guard }], guard := some (30, true) }) (v := ?v1311_31) rfl (by kernel_rfl) (by kernel_rfl) (by kernel_rfl) (fun _ _ _ h => h) (Or.inl ⟨by rfl, ?hy1311_31⟩) hHeld7 ?_
          case hy1311_31 => (intro w hSw; (try dsimp only at hSw); go_simp; first | done | with_reducible rfl)
          try simp only [Act.put, List.setIfInBounds_toArray, List.set_cons_zero, List.set_cons_succ]
          refine wpAnyH_take (i := 32) (oi := { dst := some 108, op := Go.Op.move (Go.Operand.tmp 15), type := 31, pos := "extra.go:40", after := #[{ on := 30, ground := Go.Ground.guard }], guard := some (30, true) }) (v := ?v1311_32) rfl (by kernel_rfl) (by kernel_rfl) (by kernel_rfl) (fun _ _ _ h => h) (Or.inl ⟨by rfl, ?hy1311_32⟩) hHeld7 ?_
          case hy1311_32 => (intro w hSw; (try dsimp only at hSw); go_simp; first | done | with_reducible rfl)
          try simp only [Act.put, List.setIfInBounds_toArray, List.set_cons_zero, List.set_cons_succ]
          refine wpAnyH_take (i := 33) (oi := { dst := some 109, op := Go.Op.binOp Go.BinOp.eql 31 (Go.Operand.tmp 107) (Go.Operand.tmp 108) 31, type := 4, pos := "extra.go:40", after := #[{ on := 31, ground := Go.Ground.data }, { on := 32, ground := Go.Ground.data }, { on := 30, ground := Go.Ground.guard }], guard := some (30, true) }) (v := ?v1311_33) rfl (by kernel_rfl) (by kernel_rfl) (by kernel_rfl) (fun _ _ _ h => h) (Or.inl ⟨by rfl, ?hy1311_33⟩) hHeld7 ?_
          case hy1311_33 => (intro w hSw; (try dsimp only at hSw); go_simp; first | done | with_reducible rfl)
          try simp only [Act.put, List.setIfInBounds_toArray, List.set_cons_zero, List.set_cons_succ]
          refine wpAnyH_take (i := 34) (oi := { dst := some 110, op := Go.Op.pick (Go.Operand.tmp 106) (Go.Operand.tmp 109) (Go.Operand.const (Go.Value.bool false)), type := 4, pos := "extra.go:40", after := #[{ on := 30, ground := Go.Ground.data }, { on := 33, ground := Go.Ground.data }], guard := none }) (v := ?v1311_34) rfl (by kernel_rfl) (by kernel_rfl) (by kernel_rfl) (fun _ _ _ h => h) (Or.inl ⟨by rfl, ?hy1311_34⟩) hHeld7 ?_
          case hy1311_34 => (intro w hSw; (try dsimp only at hSw); go_simp; first | done | with_reducible rfl)
          try simp only [Act.put, List.setIfInBounds_toArray, List.set_cons_zero, List.set_cons_succ]
          refine wpAnyH_take (i := 35) (oi := { dst := some 111, op := Go.Op.move (Go.Operand.tmp 110), type := 4, pos := "extra.go:40", after := #[{ on := 34, ground := Go.Ground.data }, { on := 30, ground := Go.Ground.chain }], guard := none }) (v := ?v1311_35) rfl (by kernel_rfl) (by kernel_rfl) (by kernel_rfl) (fun _ _ _ h => h) (Or.inl ⟨by rfl, ?hy1311_35⟩) hHeld7 ?_
          case hy1311_35 => (intro w hSw; (try dsimp only at hSw); go_simp; first | done | with_reducible rfl)
          try simp only [Act.put, List.setIfInBounds_toArray, List.set_cons_zero, List.set_cons_succ]
          refine wpAnyH_take (i := 36) (oi := { dst := some 112, op := Go.Op.move (Go.Operand.tmp 15), type := 31, pos := "extra.go:40", after := #[{ on := 35, ground := Go.Ground.guard }], guard := some (35, true) }) (v := ?v1311_36) rfl (by kernel_rfl) (by kernel_rfl) (by kernel_rfl) (fun _ _ _ h => h) (Or.inl ⟨by rfl, ?hy1311_36⟩) hHeld7 ?_
          case hy1311_36 => (intro w hSw; (try dsimp only at hSw); go_simp; first | done | with_reducible rfl)
          try simp only [Act.put, List.setIfInBounds_toArray, List.set_cons_zero, List.set_cons_succ]
          refine wpAnyH_take (i := 37) (oi := { dst := some 113, op := Go.Op.move (Go.Operand.tmp 17), type := 31, pos := "extra.go:40", after := #[{ on := 35, ground := Go.Ground.guard }], guard := some (35, true) }) (v := ?v1311_37) rfl (by kernel_rfl) (by kernel_rfl) (by kernel_rfl) (fun _ _ _ h => h) (Or.inl ⟨by rfl, ?hy1311_37⟩) hHeld7 ?_
          case hy1311_37 => (intro w hSw; (try dsimp only at hSw); go_simp; first | done | with_reducible rfl)
          try simp only [Act.put, List.setIfInBounds_toArray, List.set_cons_zero, List.set_cons_succ]
          refine wpAnyH_take (i := 38) (oi := { dst := some 114, op := Go.Op.binOp Go.BinOp.eql 31 (Go.Operand.tmp 112) (Go.Operand.tmp 113) 31, type := 4, pos := "extra.go:40", after := #[{ on := 36, ground := Go.Ground.data }, { on := 37, ground := Go.Ground.data }, { on := 35, ground := Go.Ground.guard }], guard := some (35, true) }) (v := ?v1311_38) rfl (by kernel_rfl) (by kernel_rfl) (by kernel_rfl) (fun _ _ _ h => h) (Or.inl ⟨by rfl, ?hy1311_38⟩) hHeld7 ?_
          case hy1311_38 => (intro w hSw; (try dsimp only at hSw); go_simp; first | done | with_reducible rfl)
          try simp only [Act.put, List.setIfInBounds_toArray, List.set_cons_zero, List.set_cons_succ]
          refine wpAnyH_take (i := 39) (oi := { dst := some 115, op := Go.Op.pick (Go.Operand.tmp 111) (Go.Operand.tmp 114) (Go.Operand.const (Go.Value.bool false)), type := 4, pos := "extra.go:40", after := #[{ on := 35, ground := Go.Ground.data }, { on := 38, ground := Go.Ground.data }], guard := none }) (v := ?v1311_39) rfl (by kernel_rfl) (by kernel_rfl) (by kernel_rfl) (fun _ _ _ h => h) (Or.inl ⟨by rfl, ?hy1311_39⟩) hHeld7 ?_
          case hy1311_39 => (intro w hSw; (try dsimp only at hSw); go_simp; first | done | with_reducible rfl)
          try simp only [Act.put, List.setIfInBounds_toArray, List.set_cons_zero, List.set_cons_succ]
          refine wpAnyH_take (i := 40) (oi := { dst := some 116, op := Go.Op.move (Go.Operand.tmp 115), type := 4, pos := "extra.go:40", after := #[{ on := 39, ground := Go.Ground.data }, { on := 35, ground := Go.Ground.chain }], guard := none }) (v := ?v1311_40) rfl (by kernel_rfl) (by kernel_rfl) (by kernel_rfl) (fun _ _ _ h => h) (Or.inl ⟨by rfl, ?hy1311_40⟩) hHeld7 ?_
          case hy1311_40 => (intro w hSw; (try dsimp only at hSw); go_simp; first | done | with_reducible rfl)
          try simp only [Act.put, List.setIfInBounds_toArray, List.set_cons_zero, List.set_cons_succ]
          refine wpAnyH_take (i := 41) (oi := { dst := some 117, op := Go.Op.move (Go.Operand.tmp 17), type := 31, pos := "extra.go:40", after := #[{ on := 40, ground := Go.Ground.guard }], guard := some (40, true) }) (v := ?v1311_41) rfl (by kernel_rfl) (by kernel_rfl) (by kernel_rfl) (fun _ _ _ h => h) (Or.inl ⟨by rfl, ?hy1311_41⟩) hHeld7 ?_
          case hy1311_41 => (intro w hSw; (try dsimp only at hSw); go_simp; first | done | with_reducible rfl)
          try simp only [Act.put, List.setIfInBounds_toArray, List.set_cons_zero, List.set_cons_succ]
          refine wpAnyH_take (i := 42) (oi := { dst := some 118, op := Go.Op.move (Go.Operand.tmp 19), type := 31, pos := "extra.go:40", after := #[{ on := 40, ground := Go.Ground.guard }], guard := some (40, true) }) (v := ?v1311_42) rfl (by kernel_rfl) (by kernel_rfl) (by kernel_rfl) (fun _ _ _ h => h) (Or.inl ⟨by rfl, ?hy1311_42⟩) hHeld7 ?_
          case hy1311_42 => (intro w hSw; (try dsimp only at hSw); go_simp; first | done | with_reducible rfl)
          try simp only [Act.put, List.setIfInBounds_toArray, List.set_cons_zero, List.set_cons_succ]
          refine wpAnyH_take (i := 43) (oi := { dst := some 119, op := Go.Op.binOp Go.BinOp.eql 31 (Go.Operand.tmp 117) (Go.Operand.tmp 118) 31, type := 4, pos := "extra.go:40", after := #[{ on := 41, ground := Go.Ground.data }, { on := 42, ground := Go.Ground.data }, { on := 40, ground := Go.Ground.guard }], guard := some (40, true) }) (v := ?v1311_43) rfl (by kernel_rfl) (by kernel_rfl) (by kernel_rfl) (fun _ _ _ h => h) (Or.inl ⟨by rfl, ?hy1311_43⟩) hHeld7 ?_
          case hy1311_43 => (intro w hSw; (try dsimp only at hSw); go_simp; first | done | with_reducible rfl)
          try simp only [Act.put, List.setIfInBounds_toArray, List.set_cons_zero, List.set_cons_succ]
          refine wpAnyH_take (i := 44) (oi := { dst := some 120, op := Go.Op.pick (Go.Operand.tmp 116) (Go.Operand.tmp 119) (Go.Operand.const (Go.Value.bool false)), type := 4, pos := "extra.go:40", after := #[{ on := 40, ground := Go.Ground.data }, { on := 43, ground := Go.Ground.data }], guard := none }) (v := ?v1311_44) rfl (by kernel_rfl) (by kernel_rfl) (by kernel_rfl) (fun _ _ _ h => h) (Or.inl ⟨by rfl, ?hy1311_44⟩) hHeld7 ?_
          case hy1311_44 => (intro w hSw; (try dsimp only at hSw); go_simp; first | done | with_reducible rfl)
          try simp only [Act.put, List.setIfInBounds_toArray, List.set_cons_zero, List.set_cons_succ]
          refine wpAnyH_take (i := 45) (oi := { dst := some 121, op := Go.Op.move (Go.Operand.tmp 120), type := 4, pos := "extra.go:40", after := #[{ on := 44, ground := Go.Ground.data }, { on := 40, ground := Go.Ground.chain }], guard := none }) (v := ?v1311_45) rfl (by kernel_rfl) (by kernel_rfl) (by kernel_rfl) (fun _ _ _ h => h) (Or.inl ⟨by rfl, ?hy1311_45⟩) hHeld7 ?_
          case hy1311_45 => (intro w hSw; (try dsimp only at hSw); go_simp; first | done | with_reducible rfl)
          try simp only [Act.put, List.setIfInBounds_toArray, List.set_cons_zero, List.set_cons_succ]
          refine wpAnyH_take (i := 46) (oi := { dst := some 122, op := Go.Op.move (Go.Operand.tmp 13), type := 31, pos := "extra.go:40", after := #[{ on := 45, ground := Go.Ground.guard }], guard := some (45, true) }) (v := ?v1311_46) rfl (by kernel_rfl) (by kernel_rfl) (by kernel_rfl) (fun _ _ _ h => h) (Or.inl ⟨by rfl, ?hy1311_46⟩) hHeld7 ?_
          case hy1311_46 => (intro w hSw; (try dsimp only at hSw); go_simp; first | done | with_reducible rfl)
          try simp only [Act.put, List.setIfInBounds_toArray, List.set_cons_zero, List.set_cons_succ]
          refine wpAnyH_take (i := 47) (oi := { dst := some 123, op := Go.Op.binOp Go.BinOp.neq 31 (Go.Operand.tmp 122) (Go.Operand.const (Go.Value.int Go.IntKind.i64 0)) 31, type := 4, pos := "extra.go:40", after := #[{ on := 46, ground := Go.Ground.data }, { on := 45, ground := Go.Ground.guard }], guard := some (45, true) }) (v := ?v1311_47) rfl (by kernel_rfl) (by kernel_rfl) (by kernel_rfl) (fun _ _ _ h => h) (Or.inl ⟨by rfl, ?hy1311_47⟩) hHeld7 ?_
          case hy1311_47 => (intro w hSw; (try dsimp only at hSw); go_simp; first | done | with_reducible rfl)
          try simp only [Act.put, List.setIfInBounds_toArray, List.set_cons_zero, List.set_cons_succ]
          refine wpAnyH_take (i := 48) (oi := { dst := some 124, op := Go.Op.move (Go.Operand.tmp 123), type := 4, pos := "extra.go:40", after := #[{ on := 47, ground := Go.Ground.data }, { on := 45, ground := Go.Ground.chain }, { on := 45, ground := Go.Ground.guard }], guard := some (45, true) }) (v := ?v1311_48) rfl (by kernel_rfl) (by kernel_rfl) (by kernel_rfl) (fun _ _ _ h => h) (Or.inl ⟨by rfl, ?hy1311_48⟩) hHeld7 ?_
          case hy1311_48 => (intro w hSw; (try dsimp only at hSw); go_simp; first | done | with_reducible rfl)
          try simp only [Act.put, List.setIfInBounds_toArray, List.set_cons_zero, List.set_cons_succ]
          refine wpAnyH_take (i := 49) (oi := { dst := some 125, op := Go.Op.load 24 (Go.Operand.tmp 14), type := 24, pos := "extra.go:40", after := #[{ on := 48, ground := Go.Ground.guard }], guard := some (48, false) }) (v := ?v1311_49) rfl (by kernel_rfl) (by kernel_rfl) (by kernel_rfl) (fun _ _ _ h => h) (Or.inl ⟨by rfl, ?hy1311_49⟩) hHeld7 ?_
          case hy1311_49 => (intro w hSw; (try dsimp only at hSw); go_simp; first | done | with_reducible rfl)
          try simp only [Act.put, List.setIfInBounds_toArray, List.set_cons_zero, List.set_cons_succ]
          refine wpAnyH_take (i := 50) (oi := { dst := some 126, op := Go.Op.load 24 (Go.Operand.tmp 12), type := 24, pos := "extra.go:40", after := #[{ on := 48, ground := Go.Ground.guard }], guard := some (48, false) }) (v := ?v1311_50) rfl (by kernel_rfl) (by kernel_rfl) (by kernel_rfl) (fun _ _ _ h => h) (Or.inl ⟨by rfl, ?hy1311_50⟩) hHeld7 ?_
          case hy1311_50 => (intro w hSw; (try dsimp only at hSw); go_simp; first | done | with_reducible rfl)
          try simp only [Act.put, List.setIfInBounds_toArray, List.set_cons_zero, List.set_cons_succ]
          refine wpAnyH_ready (rs := [51]) (by kernel_rfl) (by simp) ?_
          refine AllReadyH.cons (o := { dst := some 127, op := Go.Op.call { callee := Go.Callee.value (Go.Operand.func 32), args := #[Go.Operand.tmp 126], argTypes := #[24] }, type := 24, pos := "extra.go:40", after := #[{ on := 50, ground := Go.Ground.data }, { on := 48, ground := Go.Ground.chain }, { on := 48, ground := Go.Ground.guard }], guard := some (48, false) }) rfl (fun K hK => ?_) AllReadyH.nil
          go_simp
          (with_reducible refine (neg_n g5 h13 _ (H5.out.plus (by repeat' (first | exact Plus.refl _ | refine Plus.alloc ?_ _ | refine Plus.plus ?_ _ | refine Plus.drew ?_ | refine Plus.drewN ?_ _)))).mono ?_); rintro e w1 ⟨A13, c13, rfl, a13, ⟨x13, rfl⟩⟩; (try simp only [plus_drew] at a13); replace a13 := Lib.hid a13
          go_wp2_with fail
          refine hK.out _ _ (by (try dsimp only); (refine ⟨?_, ?_, ?_, ?_, ?_, ?_, ?_, ?_, ?_, ?_, ?_, ?_, ?_, ?_, ?_, ?_, ?_, ?_⟩ <;> simp [go_sem, z2_0, z2_1, z5_0, z5_1, z6_0, z6_1, z8_0, z8_1, z10_0, z10_1, z12_0, z12_1, z14_0, z14_1, z16_0, z16_1, z18_0, z18_1])) (fun hHeld8 => ?_)
          clear hK K hHeld7
          try simp only [Act.put, List.setIfInBounds_toArray, List.set_cons_zero, List.set_cons_succ]
          refine wpAnyH_ready (rs := [52]) (by kernel_rfl) (by simp) ?_
          refine AllReadyH.cons (o := { dst := some 128, op := Go.Op.call { callee := Go.Callee.value (Go.Operand.func 30), args := #[Go.Operand.tmp 125, Go.Operand.tmp 127], argTypes := #[24, 24] }, type := 4, pos := "extra.go:40", after := #[{ on := 49, ground := Go.Ground.data }, { on := 51, ground := Go.Ground.data }, { on := 51, ground := Go.Ground.chain }, { on := 48, ground := Go.Ground.guard }], guard := some (48, false) }) rfl (fun K hK => ?_) AllReadyH.nil
          go_simp
          (with_reducible refine (same_o g6 g13 e4 _ (H6.out.plus (by repeat' (first | exact Plus.refl _ | refine Plus.alloc ?_ _ | refine Plus.plus ?_ _ | refine Plus.drew ?_ | refine Plus.drewN ?_ _))) (a13.out.plus (by repeat' (first | exact Plus.refl _ | refine Plus.alloc ?_ _ | refine Plus.plus ?_ _ | refine Plus.drew ?_ | refine Plus.drewN ?_ _)))).mono ?_); rintro e w1 ⟨rfl, ⟨z4, rfl⟩⟩
          go_wp2_with fail
          refine hK.out _ _ (by (try dsimp only); (refine ⟨?_, ?_, ?_, ?_, ?_, ?_, ?_, ?_, ?_, ?_, ?_, ?_, ?_, ?_, ?_, ?_, ?_, ?_⟩ <;> simp [go_sem, z2_0, z2_1, z5_0, z5_1, z6_0, z6_1, z8_0, z8_1, z10_0, z10_1, z12_0, z12_1, z14_0, z14_1, z16_0, z16_1, z18_0, z18_1])) (fun hHeld9 => ?_)
          clear hK K hHeld8
          try simp only [Act.put, List.setIfInBounds_toArray, List.set_cons_zero, List.set_cons_succ]
          refine wpAnyH_take (i := 53) (oi := { dst := some 129, op := Go.Op.move (Go.Operand.tmp 128), type := 4, pos := "extra.go:40", after := #[{ on := 52, ground := Go.Ground.data }, { on := 52, ground := Go.Ground.chain }, { on := 48, ground := Go.Ground.guard }], guard := some (48, false) }) (v := ?v1311_53) rfl (by kernel_rfl) (by kernel_rfl) (by kernel_rfl) (fun _ _ _ h => h) (Or.inl ⟨by rfl, ?hy1311_53⟩) hHeld9 ?_
          case hy1311_53 => (intro w hSw; (try dsimp only at hSw); go_simp; first | done | with_reducible rfl)
          try simp only [Act.put, List.setIfInBounds_toArray, List.set_cons_zero, List.set_cons_succ]
          refine wpAnyH_take (i := 54) (oi := { dst := some 130, op := Go.Op.load 24 (Go.Operand.tmp 18), type := 24, pos := "extra.go:40", after := #[{ on := 53, ground := Go.Ground.guard }], guard := some (53, true) }) (v := ?v1311_54) rfl (by kernel_rfl) (by kernel_rfl) (by kernel_rfl) (fun _ _ _ h => h) (Or.inl ⟨by rfl, ?hy1311_54⟩) hHeld9 ?_
          case hy1311_54 => (intro w hSw; (try dsimp only at hSw); go_simp; first | done | with_reducible rfl)
          try simp only [Act.put, List.setIfInBounds_toArray, List.set_cons_zero, List.set_cons_succ]
          refine wpAnyH_take (i := 55) (oi := { dst := some 131, op := Go.Op.load 24 (Go.Operand.tmp 16), type := 24, pos := "extra.go:40", after := #[{ on := 53, ground := Go.Ground.guard }], guard := some (53, true) }) (v := ?v1311_55) rfl (by kernel_rfl) (by kernel_rfl) (by kernel_rfl) (fun _ _ _ h => h) (Or.inl ⟨by rfl, ?hy1311_55⟩) hHeld9 ?_
          case hy1311_55 => (intro w hSw; (try dsimp only at hSw); go_simp; first | done | with_reducible rfl)
          try simp only [Act.put, List.setIfInBounds_toArray, List.set_cons_zero, List.set_cons_succ]
          refine wpAnyH_ready (rs := [56]) (by kernel_rfl) (by simp) ?_
          refine AllReadyH.cons (o := { dst := some 132, op := Go.Op.call { callee := Go.Callee.value (Go.Operand.func 32), args := #[Go.Operand.tmp 131], argTypes := #[24] }, type := 24, pos := "extra.go:40", after := #[{ on := 55, ground := Go.Ground.data }, { on := 53, ground := Go.Ground.chain }, { on := 53, ground := Go.Ground.guard }], guard := some (53, true) }) rfl (fun K hK => ?_) AllReadyH.nil
          go_simp
          (with_reducible refine (neg_n g7 h14 _ (H7.out.plus (by repeat' (first | exact Plus.refl _ | refine Plus.alloc ?_ _ | refine Plus.plus ?_ _ | refine Plus.drew ?_ | refine Plus.drewN ?_ _)))).mono ?_); rintro e w1 ⟨A14, c14, rfl, a14, ⟨x14, rfl⟩⟩; (try simp only [plus_drew] at a14); replace a14 := Lib.hid a14
          go_wp2_with fail
          refine hK.out _ _ (by (try dsimp only); (refine ⟨?_, ?_, ?_, ?_, ?_, ?_, ?_, ?_, ?_, ?_, ?_, ?_, ?_, ?_, ?_, ?_, ?_, ?_⟩ <;> simp [go_sem, z2_0, z2_1, z5_0, z5_1, z6_0, z6_1, z8_0, z8_1, z10_0, z10_1, z12_0, z12_1, z14_0, z14_1, z16_0, z16_1, z18_0, z18_1])) (fun hHeld10 => ?_)
          clear hK K hHeld9
          try simp only [Act.put, List.setIfInBounds_toArray, List.set_cons_zero, List.set_cons_succ]
          refine wpAnyH_ready (rs := [57]) (by kernel_rfl) (by simp) ?_
          refine AllReadyH.cons (o := { dst := some 133, op := Go.Op.call { callee := Go.Callee.value (Go.Operand.func 30), args := #[Go.Operand.tmp 130, Go.Operand.tmp 132], argTypes := #[24, 24] }, type := 4, pos := "extra.go:40", after := #[{ on := 54, ground := Go.Ground.data }, { on := 56, ground := Go.Ground.data }, { on := 56, ground := Go.Ground.chain }, { on := 53, ground := Go.Ground.guard }], guard := some (53, true) }) rfl (fun K hK => ?_) AllReadyH.nil
          go_simp
          (with_reducible refine (same_o g9 g14 e5 _ (H9.out.plus (by repeat' (first | exact Plus.refl _ | refine Plus.alloc ?_ _ | refine Plus.plus ?_ _ | refine Plus.drew ?_ | refine Plus.drewN ?_ _))) (a14.out.plus (by repeat' (first | exact Plus.refl _ | refine Plus.alloc ?_ _ | refine Plus.plus ?_ _ | refine Plus.drew ?_ | refine Plus.drewN ?_ _)))).mono ?_); rintro e w1 ⟨rfl, ⟨z5, rfl⟩⟩
          go_wp2_with fail
          refine hK.out _ _ (by (try dsimp only); (refine ⟨?_, ?_, ?_, ?_, ?_, ?_, ?_, ?_, ?_, ?_, ?_, ?_, ?_, ?_, ?_, ?_, ?_, ?_⟩ <;> simp [go_sem, z2_0, z2_1, z5_0, z5_1, z6_0, z6_1, z8_0, z8_1, z10_0, z10_1, z12_0, z12_1, z14_0, z14_1, z16_0, z16_1, z18_0, z18_1])) (fun hHeld11 => ?_)
          clear hK K hHeld10
          try simp only [Act.put, List.setIfInBounds_toArray, List.set_cons_zero, List.set_cons_succ]
          refine wpAnyH_take (i := 58) (oi := { dst := some 134, op := Go.Op.pick (Go.Operand.tmp 129) (Go.Operand.tmp 133) (Go.Operand.const (Go.Value.bool false)), type := 4, pos := "extra.go:40", after := #[{ on := 53, ground := Go.Ground.data }, { on := 57, ground := Go.Ground.data }, { on := 48, ground := Go.Ground.guard }], guard := some (48, false) }) (v := ?v1311_58) rfl (by kernel_rfl) (by kernel_rfl) (by kernel_rfl) (fun _ _ _ h => h) (Or.inl ⟨by rfl, ?hy1311_58⟩) hHeld11 ?_
          case hy1311_58 => (intro w hSw; (try dsimp only at hSw); go_simp; first | done | with_reducible rfl)
          try simp only [Act.put, List.setIfInBounds_toArray, List.set_cons_zero, List.set_cons_succ]
          refine wpAnyH_take (i := 59) (oi := { dst := some 135, op := Go.Op.pick (Go.Operand.tmp 124) (Go.Operand.const (Go.Value.bool true)) (Go.Operand.tmp 134), type := 4, pos := "extra.go:40", after := #[{ on := 48, ground := Go.Ground.data }, { on := 58, ground := Go.Ground.data }, { on := 45, ground := Go.Ground.guard }], guard := some (45, true) }) (v := ?v1311_59) rfl (by kernel_rfl) (by kernel_rfl) (by kernel_rfl) (fun _ _ _ h => h) (Or.inl ⟨by rfl, ?hy1311_59⟩) hHeld11 ?_
          case hy1311_59 => (intro w hSw; (try dsimp only at hSw); go_simp; first | done | with_reducible rfl)
          try simp only [Act.put, List.setIfInBounds_toArray, List.set_cons_zero, List.set_cons_succ]
          refine wpAnyH_take (i := 60) (oi := { dst := some 136, op := Go.Op.pick (Go.Operand.tmp 121) (Go.Operand.tmp 135) (Go.Operand.const (Go.Value.bool false)), type := 4, pos := "extra.go:40", after := #[{ on := 45, ground := Go.Ground.data }, { on := 59, ground := Go.Ground.data }], guard := none }) (v := ?v1311_60) rfl (by kernel_rfl) (by kernel_rfl) (by kernel_rfl) (fun _ _ _ h => h) (Or.inl ⟨by rfl, ?hy1311_60⟩) hHeld11 ?_
          case hy1311_60 => (intro w hSw; (try dsimp only at hSw); go_simp; first | done | with_reducible rfl)
          try simp only [Act.put, List.setIfInBounds_toArray, List.set_cons_zero, List.set_cons_succ]
          refine wpAnyH_take (i := 61) (oi := { dst := some 4, op := Go.Op.assign (Go.Operand.tmp 136), type := 4, pos := "extra.go:40", after := #[{ on := 60, ground := Go.Ground.data }, { on := 57, ground := Go.Ground.chain }, { on := 0, ground := Go.Ground.phase }, { on := 1, ground := Go.Ground.phase }, { on := 2, ground := Go.Ground.phase }, { on := 3, ground := Go.Ground.phase }, { on := 4, ground := Go.Ground.phase }, { on := 5, ground := Go.Ground.phase }, { on := 6, ground := Go.Ground.phase }, { on := 7, ground := Go.Ground.phase }, { on := 8, ground := Go.Ground.phase }, { on := 9, ground := Go.Ground.phase }, { on := 10, ground := Go.Ground.phase }, { on := 11, ground := Go.Ground.phase }, { on := 12, ground := Go.Ground.phase }, { on := 13, ground := Go.Ground.phase }, { on := 14, ground := Go.Ground.phase }, { on := 15, ground := Go.Ground.phase }, { on := 16, ground := Go.Ground.phase }, { on := 17, ground := Go.Ground.phase }, { on := 18, ground := Go.Ground.phase }, { on := 19, ground := Go.Ground.phase }, { on := 20, ground := Go.Ground.phase }, { on := 21, ground := Go.Ground.phase }, { on := 22, ground := Go.Ground.phase }, { on := 23, ground := Go.Ground.phase }, { on := 24, ground := Go.Ground.phase }, { on := 25, ground := Go.Ground.phase }, { on := 26, ground := Go.Ground.phase }, { on := 27, ground := Go.Ground.phase }, { on := 28, ground := Go.Ground.phase }, { on := 29, ground := Go.Ground.phase }, { on := 30, ground := Go.Ground.phase }, { on := 31, ground := Go.Ground.phase }, { on := 32, ground := Go.Ground.phase }, { on := 33, ground := Go.Ground.phase }, { on := 34, ground := Go.Ground.phase }, { on := 35, ground := Go.Ground.phase }, { on := 36, ground := Go.Ground.phase }, { on := 37, ground := Go.Ground.phase }, { on := 38, ground := Go.Ground.phase }, { on := 39, ground := Go.Ground.phase }, { on := 40, ground := Go.Ground.phase }, { on := 41, ground := Go.Ground.phase }, { on := 42, ground := Go.Ground.phase }, { on := 43, ground := Go.Ground.phase }, { on := 44, ground := Go.Ground.phase }, { on := 45, ground := Go.Ground.phase }, { on := 46, ground := Go.Ground.phase }, { on := 47, ground := Go.Ground.phase }, { on := 48, ground := Go.Ground.phase }, { on := 49, ground := Go.Ground.phase }, { on := 50, ground := Go.Ground.phase }, { on := 51, ground := Go.Ground.phase }, { on := 52, ground := Go.Ground.phase }, { on := 53, ground := Go.Ground.phase }, { on := 54, ground := Go.Ground.phase }, { on := 55, ground := Go.Ground.phase }, { on := 56, ground := Go.Ground.phase }, { on := 57, ground := Go.Ground.phase }, { on := 58, ground := Go.Ground.phase }, { on := 59, ground := Go.Ground.phase }, { on := 60, ground := Go.Ground.phase }], guard := none }) (v := ?v1311_61) rfl (by kernel_rfl) (by kernel_rfl) (by kernel_rfl) (fun _ _ _ h => h) (Or.inl ⟨by rfl, ?hy1311_61⟩) hHeld11 ?_
          case hy1311_61 => (intro w hSw; (try dsimp only at hSw); go_simp; first | done | with_reducible rfl)
          try simp only [Act.put, List.setIfInBounds_toArray, List.set_cons_zero, List.set_cons_succ]
          refine wpAnyH_done (by kernel_rfl) ?_ _
          refine NoPanic.normal ?_
          go_wp2_with fail
          go_returns
          refine ⟨by simp, ?_⟩
          repeat' (first | exact HP2.out | exact Plus.refl _ | refine Plus.alloc ?_ _ | refine Plus.plus ?_ _ | refine Plus.drew ?_ | refine Plus.drewN ?_ _)
      · as_aux_lemma =>
          replace e3 : Hid (SameI q np true) := Lib.hid (e3.out rfl)
          subst hz
          clear e4 e5
          go_upto_region 13 with fail
          refine wp_region_noPanic ?_
          refine wp_region_held_drew (S := (fun w' => w'.cell? ⟨w.heap.size, 0, none⟩ = some (.bool an) ∧ w'.cell? ⟨w.heap.size, 1, none⟩ = some (.slice A n c) ∧ w'.cell? ⟨k5, 0, none⟩ = some (.bool b1) ∧ w'.cell? ⟨k5, 1, none⟩ = some (.slice A1 u1.length c1) ∧ w'.cell? ⟨k6, 0, none⟩ = some (.bool b2) ∧ w'.cell? ⟨k6, 1, none⟩ = some (.slice A2 u2.length c2) ∧ w'.cell? ⟨k8, 0, none⟩ = some (.bool b3) ∧ w'.cell? ⟨k8, 1, none⟩ = some (.slice A3 u3.length c3) ∧ w'.cell? ⟨k10, 0, none⟩ = some (.bool b4) ∧ w'.cell? ⟨k10, 1, none⟩ = some (.slice A4 u4.length c4) ∧ w'.cell? ⟨k12, 0, none⟩ = some (.bool b5) ∧ w'.cell? ⟨k12, 1, none⟩ = some (.slice A5 u5.length c5) ∧ w'.cell? ⟨k14, 0, none⟩ = some (.bool b6) ∧ w'.cell? ⟨k14, 1, none⟩ = some (.slice A6 u6.length c6) ∧ w'.cell? ⟨k16, 0, none⟩ = some (.bool b7) ∧ w'.cell? ⟨k16, 1, none⟩ = some (.slice A7 u7.length c7) ∧ w'.cell? ⟨k18, 0, none⟩ = some (.bool b9) ∧ w'.cell? ⟨k18, 1, none⟩ = some (.slice A9 u9.length c9))) (by kernel_rfl) (by (refine ⟨?_, ?_, ?_, ?_, ?_, ?_, ?_, ?_, ?_, ?_, ?_, ?_, ?_, ?_, ?_, ?_, ?_, ?_⟩ <;> simp [go_sem, z2_0, z2_1, z5_0, z5_1, z6_0, z6_1, z8_0, z8_1, z10_0, z10_1, z12_0, z12_1, z14_0, z14_1, z16_0, z16_1, z18_0, z18_1])) (fun hHeld => ?_)
          refine wpAnyH_ready (rs := [0]) (by kernel_rfl) (by simp) ?_
          refine AllReadyH.cons (o := { dst := some 76, op := Go.Op.call { callee := Go.Callee.value (Go.Operand.func 14), args := #[], argTypes := #[] }, type := 4, pos := "extra.go:40", after := #[], guard := none }) rfl (fun K hK => ?_) AllReadyH.nil
          go_simp
          (with_reducible refine (first_c _).mono ?_); rintro e w1 ⟨rfl, ⟨z0, rfl⟩⟩
          go_wp2_with fail
          refine hK.out _ _ (by (try dsimp only); (refine ⟨?_, ?_, ?_, ?_, ?_, ?_, ?_, ?_, ?_, ?_, ?_, ?_, ?_, ?_, ?_, ?_, ?_, ?_⟩ <;> simp [go_sem, z2_0, z2_1, z5_0, z5_1, z6_0, z6_1, z8_0, z8_1, z10_0, z10_1, z12_0, z12_1, z14_0, z14_1, z16_0, z16_1, z18_0, z18_1])) (fun hHeld1 => ?_)
          clear hK K hHeld
          try simp only [Act.put, List.setIfInBounds_toArray, List.set_cons_zero, List.set_cons_succ]
          refine wpAnyH_take (i := 1) (oi := { dst := some 77, op := Go.Op.move (Go.Operand.tmp 76), type := 4, pos := "extra.go:40", after := #[{ on := 0, ground := Go.Ground.data }, { on := 0, ground := Go.Ground.chain }], guard := none }) (v := ?v1310_1) rfl (by kernel_rfl) (by kernel_rfl) (by kernel_rfl) (fun _ _ _ h => h) (Or.inl ⟨by rfl, ?hy1310_1⟩) hHeld1 ?_
          case hy1310_1 => (intro w hSw; (try dsimp only at hSw); go_simp; first | done | with_reducible rfl)
          try simp only [Act.put, List.setIfInBounds_toArray, List.set_cons_zero, List.set_cons_succ]
          refine wpAnyH_take (i := 2) (oi := { dst := some 78, op := Go.Op.load 24 (Go.Operand.tmp 5), type := 24, pos := "extra.go:40", after := #[{ on := 1, ground := Go.Ground.guard }], guard := some (1, true) }) (v := ?v1310_2) rfl (by kernel_rfl) (by kernel_rfl) (by kernel_rfl) (fun _ _ _ h => h) (Or.inl ⟨by rfl, ?hy1310_2⟩) hHeld1 ?_
          case hy1310_2 => (intro w hSw; (try dsimp only at hSw); go_simp; first | done | with_reducible rfl)
          try simp only [Act.put, List.setIfInBounds_toArray, List.set_cons_zero, List.set_cons_succ]
          refine wpAnyH_take (i := 4) (oi := { dst := some 80, op := Go.Op.load 24 (Go.Operand.tmp 2), type := 24, pos := "extra.go:40", after := #[{ on := 1, ground := Go.Ground.guard }], guard := some (1, true) }) (v := ?v1310_4) rfl (by kernel_rfl) (by kernel_rfl) (by kernel_rfl) (fun _ _ _ h => h) (Or.inl ⟨by rfl, ?hy1310_4⟩) hHeld1 ?_
          case hy1310_4 => (intro w hSw; (try dsimp only at hSw); go_simp; first | done | with_reducible rfl)
          try simp only [Act.put, List.setIfInBounds_toArray, List.set_cons_zero, List.set_cons_succ]
          refine wpAnyH_ready (rs := [3]) (by kernel_rfl) (by simp) ?_
          refine AllReadyH.cons (o := { dst := some 79, op := Go.Op.call { callee := Go.Callee.value (Go.Operand.func 32), args := #[Go.Operand.tmp 78], argTypes := #[24] }, type := 24, pos := "extra.go:40", after := #[{ on := 2, ground := Go.Ground.data }, { on := 1, ground := Go.Ground.chain }, { on := 1, ground := Go.Ground.guard }], guard := some (1, true) }) rfl (fun K hK => ?_) AllReadyH.nil
          go_simp
          (with_reducible refine (neg_n g1 h10 _ (H1.out.plus (by repeat' (first | exact Plus.refl _ | refine Plus.alloc ?_ _ | refine Plus.plus ?_ _ | refine Plus.drew ?_ | refine Plus.drewN ?_ _)))).mono ?_); rintro e w1 ⟨A10, c10, rfl, a10, ⟨x10, rfl⟩⟩; (try simp only [plus_drew] at a10); replace a10 := Lib.hid a10
          go_wp2_with fail
          refine hK.out _ _ (by (try dsimp only); (refine ⟨?_, ?_, ?_, ?_, ?_, ?_, ?_, ?_, ?_, ?_, ?_, ?_, ?_, ?_, ?_, ?_, ?_, ?_⟩ <;> simp [go_sem, z2_0, z2_1, z5_0, z5_1, z6_0, z6_1, z8_0, z8_1, z10_0, z10_1, z12_0, z12_1, z14_0, z14_1, z16_0, z16_1, z18_0, z18_1])) (fun hHeld2 => ?_)
          clear hK K hHeld1
          try simp only [Act.put, List.setIfInBounds_toArray, List.set_cons_zero, List.set_cons_succ]
          refine wpAnyH_ready (rs := [5]) (by kernel_rfl) (by simp) ?_
          refine AllReadyH.cons (o := { dst := some 81, op := Go.Op.call { callee := Go.Callee.value (Go.Operand.func 30), args := #[Go.Operand.tmp 79, Go.Operand.tmp 80], argTypes := #[24, 24] }, type := 4, pos := "extra.go:40", after := #[{ on := 3, ground := Go.Ground.data }, { on := 4, ground := Go.Ground.data }, { on := 3, ground := Go.Ground.chain }, { on := 1, ground := Go.Ground.guard }], guard := some (1, true) }) rfl (fun K hK => ?_) AllReadyH.nil
          go_simp
          (with_reducible refine (same_o g10 hA e1 _ (a10.out.plus (by repeat' (first | exact Plus.refl _ | refine Plus.alloc ?_ _ | refine Plus.plus ?_ _ | refine Plus.drew ?_ | refine Plus.drewN ?_ _))) (HAw.out.plus (by repeat' (first | exact Plus.refl _ | refine Plus.alloc ?_ _ | refine Plus.plus ?_ _ | refine Plus.drew ?_ | refine Plus.drewN ?_ _)))).mono ?_); rintro e w1 ⟨rfl, ⟨z1, rfl⟩⟩
          go_wp2_with fail
          refine hK.out _ _ (by (try dsimp only); (refine ⟨?_, ?_, ?_, ?_, ?_, ?_, ?_, ?_, ?_, ?_, ?_, ?_, ?_, ?_, ?_, ?_, ?_, ?_⟩ <;> simp [go_sem, z2_0, z2_1, z5_0, z5_1, z6_0, z6_1, z8_0, z8_1, z10_0, z10_1, z12_0, z12_1, z14_0, z14_1, z16_0, z16_1, z18_0, z18_1])) (fun hHeld3 => ?_)
          clear hK K hHeld2
          try simp only [Act.put, List.setIfInBounds_toArray, List.set_cons_zero, List.set_cons_succ]
          refine wpAnyH_take (i := 6) (oi := { dst := some 82, op := Go.Op.pick (Go.Operand.tmp 77) (Go.Operand.tmp 81) (Go.Operand.const (Go.Value.bool false)), type := 4, pos := "extra.go:40", after := #[{ on := 1, ground := Go.Ground.data }, { on := 5, ground := Go.Ground.data }], guard := none }) (v := ?v1310_6) rfl (by kernel_rfl) (by kernel_rfl) (by kernel_rfl) (fun _ _ _ h => h) (Or.inl ⟨by rfl, ?hy1310_6⟩) hHeld3 ?_
          case hy1310_6 => (intro w hSw; (try dsimp only at hSw); go_simp; first | done | with_reducible rfl)
          try simp only [Act.put, List.setIfInBounds_toArray, List.set_cons_zero, List.set_cons_succ]
          refine wpAnyH_take (i := 7) (oi := { dst := some 83, op := Go.Op.move (Go.Operand.tmp 82), type := 4, pos := "extra.go:40", after := #[{ on := 6, ground := Go.Ground.data }, { on := 5, ground := Go.Ground.chain }], guard := none }) (v := ?v1310_7) rfl (by kernel_rfl) (by kernel_rfl) (by kernel_rfl) (fun _ _ _ h => h) (Or.inl ⟨by rfl, ?hy1310_7⟩) hHeld3 ?_
          case hy1310_7 => (intro w hSw; (try dsimp only at hSw); go_simp; first | done | with_reducible rfl)
          try simp only [Act.put, List.setIfInBounds_toArray, List.set_cons_zero, List.set_cons_succ]
          refine wpAnyH_take (i := 8) (oi := { dst := some 84, op := Go.Op.move (Go.Operand.tmp 7), type := 4, pos := "extra.go:40", after := #[{ on := 7, ground := Go.Ground.guard }], guard := some (7, true) }) (v := ?v1310_8) rfl (by kernel_rfl) (by kernel_rfl) (by kernel_rfl) (fun _ _ _ h => h) (Or.inl ⟨by rfl, ?hy1310_8⟩) hHeld3 ?_
          case hy1310_8 => (intro w hSw; (try dsimp only at hSw); go_simp; first | done | with_reducible rfl)
          try simp only [Act.put, List.setIfInBounds_toArray, List.set_cons_zero, List.set_cons_succ]
          refine wpAnyH_take (i := 9) (oi := { dst := some 85, op := Go.Op.pick (Go.Operand.tmp 83) (Go.Operand.tmp 84) (Go.Operand.const (Go.Value.bool false)), type := 4, pos := "extra.go:40", after := #[{ on := 7, ground := Go.Ground.data }, { on := 8, ground := Go.Ground.data }], guard := none }) (v := ?v1310_9) rfl (by kernel_rfl) (by kernel_rfl) (by kernel_rfl) (fun _ _ _ h => h) (Or.inl ⟨by rfl, ?hy1310_9⟩) hHeld3 ?_
          case hy1310_9 => (intro w hSw; (try dsimp only at hSw); go_simp; first | done | with_reducible rfl)
          try simp only [Act.put, List.setIfInBounds_toArray, List.set_cons_zero, List.set_cons_succ]
          refine wpAnyH_take (i := 10) (oi := { dst := some 86, op := Go.Op.move (Go.Operand.tmp 85), type := 4, pos := "extra.go:40", after := #[{ on := 9, ground := Go.Ground.data }, { on := 7, ground := Go.Ground.chain }], guard := none }) (v := ?v1310_10) rfl (by kernel_rfl) (by kernel_rfl) (by kernel_rfl) (fun _ _ _ h => h) (Or.inl ⟨by rfl, ?hy1310_10⟩) hHeld3 ?_
          case hy1310_10 => (intro w hSw; (try dsimp only at hSw); go_simp; first | done | with_reducible rfl)
          try simp only [Act.put, List.setIfInBounds_toArray, List.set_cons_zero, List.set_cons_succ]
          refine wpAnyH_take (i := 11) (oi := { dst := some 87, op := Go.Op.load 24 (Go.Operand.tmp 6), type := 24, pos := "extra.go:40", after := #[{ on := 10, ground := Go.Ground.guard }], guard := some (10, true) }) (v := ?v1310_11) rfl (by kernel_rfl) (by kernel_rfl) (by kernel_rfl) (fun _ _ _ h => h) (Or.inl ⟨by rfl, ?hy1310_11⟩) hHeld3 ?_
          case hy1310_11 => (intro w hSw; (try dsimp only at hSw); go_simp; first | done | with_reducible rfl)
          try simp only [Act.put, List.setIfInBounds_toArray, List.set_cons_zero, List.set_cons_succ]
          refine wpAnyH_ready (rs := [12]) (by kernel_rfl) (by simp) ?_
          refine AllReadyH.cons (o := { dst := some 88, op := Go.Op.call { callee := Go.Callee.value (Go.Operand.func 44), args := #[Go.Operand.const (Go.Value.int Go.IntKind.i64 0)], argTypes := #[3] }, type := 24, pos := "extra.go:40", after := #[{ on := 10, ground := Go.Ground.chain }, { on := 10, ground := Go.Ground.guard }], guard := some (10, true) }) rfl (fun K hK => ?_) AllReadyH.nil
          go_simp
          (with_reducible refine (of_n h11 _).mono ?_); rintro e w1 ⟨A11, c11, rfl, a11, ⟨x11, rfl⟩⟩; (try simp only [plus_drew] at a11); replace a11 := Lib.hid a11
          go_wp2_with fail
          refine hK.out _ _ (by (try dsimp only); (refine ⟨?_, ?_, ?_, ?_, ?_, ?_, ?_, ?_, ?_, ?_, ?_, ?_, ?_, ?_, ?_, ?_, ?_, ?_⟩ <;> simp [go_sem, z2_0, z2_1, z5_0, z5_1, z6_0, z6_1, z8_0, z8_1, z10_0, z10_1, z12_0, z12_1, z14_0, z14_1, z16_0, z16_1, z18_0, z18_1])) (fun hHeld4 => ?_)
          clear hK K hHeld3
          try simp only [Act.put, List.setIfInBounds_toArray, List.set_cons_zero, List.set_cons_succ]
          refine wpAnyH_ready (rs := [13]) (by kernel_rfl) (by simp) ?_
          refine AllReadyH.cons (o := { dst := some 89, op := Go.Op.call { callee := Go.Callee.value (Go.Operand.func 30), args := #[Go.Operand.tmp 87, Go.Operand.tmp 88], argTypes := #[24, 24] }, type := 4, pos := "extra.go:40", after := #[{ on := 11, ground := Go.Ground.data }, { on := 12, ground := Go.Ground.data }, { on := 12, ground := Go.Ground.chain }, { on := 10, ground := Go.Ground.guard }], guard := some (10, true) }) rfl (fun K hK => ?_) AllReadyH.nil
          go_simp
          (with_reducible refine (same_o g2 g11 e2 _ (H2.out.plus (by repeat' (first | exact Plus.refl _ | refine Plus.alloc ?_ _ | refine Plus.plus ?_ _ | refine Plus.drew ?_ | refine Plus.drewN ?_ _))) (a11.out.plus (by repeat' (first | exact Plus.refl _ | refine Plus.alloc ?_ _ | refine Plus.plus ?_ _ | refine Plus.drew ?_ | refine Plus.drewN ?_ _)))).mono ?_); rintro e w1 ⟨rfl, ⟨z2, rfl⟩⟩
          go_wp2_with fail
          refine hK.out _ _ (by (try dsimp only); (refine ⟨?_, ?_, ?_, ?_, ?_, ?_, ?_, ?_, ?_, ?_, ?_, ?_, ?_, ?_, ?_, ?_, ?_, ?_⟩ <;> simp [go_sem, z2_0, z2_1, z5_0, z5_1, z6_0, z6_1, z8_0, z8_1, z10_0, z10_1, z12_0, z12_1, z14_0, z14_1, z16_0, z16_1, z18_0, z18_1])) (fun hHeld5 => ?_)
          clear hK K hHeld4
          try simp only [Act.put, List.setIfInBounds_toArray, List.set_cons_zero, List.set_cons_succ]
          refine wpAnyH_take (i := 14) (oi := { dst := some 90, op := Go.Op.pick (Go.Operand.tmp 86) (Go.Operand.tmp 89) (Go.Operand.const (Go.Value.bool false)), type := 4, pos := "extra.go:40", after := #[{ on := 10, ground := Go.Ground.data }, { on := 13, ground := Go.Ground.data }], guard := none }) (v := ?v1310_14) rfl (by kernel_rfl) (by kernel_rfl) (by kernel_rfl) (fun _ _ _ h => h) (Or.inl ⟨by rfl, ?hy1310_14⟩) hHeld5 ?_
          case hy1310_14 => (intro w hSw; (try dsimp only at hSw); go_simp; first | done | with_reducible rfl)
          try simp only [Act.put, List.setIfInBounds_toArray, List.set_cons_zero, List.set_cons_succ]
          refine wpAnyH_take (i := 15) (oi := { dst := some 91, op := Go.Op.move (Go.Operand.tmp 90), type := 4, pos := "extra.go:40", after := #[{ on := 14, ground := Go.Ground.data }, { on := 13, ground := Go.Ground.chain }], guard := none }) (v := ?v1310_15) rfl (by kernel_rfl) (by kernel_rfl) (by kernel_rfl) (fun _ _ _ h => h) (Or.inl ⟨by rfl, ?hy1310_15⟩) hHeld5 ?_
          case hy1310_15 => (intro w hSw; (try dsimp only at hSw); go_simp; first | done | with_reducible rfl)
          try simp only [Act.put, List.setIfInBounds_toArray, List.set_cons_zero, List.set_cons_succ]
          refine wpAnyH_take (i := 16) (oi := { dst := some 92, op := Go.Op.move (Go.Operand.tmp 9), type := 4, pos := "extra.go:40", after := #[{ on := 15, ground := Go.Ground.guard }], guard := some (15, true) }) (v := ?v1310_16) rfl (by kernel_rfl) (by kernel_rfl) (by kernel_rfl) (fun _ _ _ h => h) (Or.inl ⟨by rfl, ?hy1310_16⟩) hHeld5 ?_
          case hy1310_16 => (intro w hSw; (try dsimp only at hSw); go_simp; first | done | with_reducible rfl)
          try simp only [Act.put, List.setIfInBounds_toArray, List.set_cons_zero, List.set_cons_succ]
          refine wpAnyH_take (i := 17) (oi := { dst := some 93, op := Go.Op.move (Go.Operand.tmp 11), type := 4, pos := "extra.go:40", after := #[{ on := 15, ground := Go.Ground.guard }], guard := some (15, true) }) (v := ?v1310_17) rfl (by kernel_rfl) (by kernel_rfl) (by kernel_rfl) (fun _ _ _ h => h) (Or.inl ⟨by rfl, ?hy1310_17⟩) hHeld5 ?_
          case hy1310_17 => (intro w hSw; (try dsimp only at hSw); go_simp; first | done | with_reducible rfl)
          try simp only [Act.put, List.setIfInBounds_toArray, List.set_cons_zero, List.set_cons_succ]
          refine wpAnyH_take (i := 18) (oi := { dst := some 94, op := Go.Op.binOp Go.BinOp.eql 4 (Go.Operand.tmp 92) (Go.Operand.tmp 93) 4, type := 4, pos := "extra.go:40", after := #[{ on := 16, ground := Go.Ground.data }, { on := 17, ground := Go.Ground.data }, { on := 15, ground := Go.Ground.guard }], guard := some (15, true) }) (v := ?v1310_18) rfl (by kernel_rfl) (by kernel_rfl) (by kernel_rfl) (fun _ _ _ h => h) (Or.inl ⟨by rfl, ?hy1310_18⟩) hHeld5 ?_
          case hy1310_18 => (intro w hSw; (try dsimp only at hSw); go_simp; first | done | with_reducible rfl)
          try simp only [Act.put, List.setIfInBounds_toArray, List.set_cons_zero, List.set_cons_succ]
          refine wpAnyH_take (i := 19) (oi := { dst := some 95, op := Go.Op.pick (Go.Operand.tmp 91) (Go.Operand.tmp 94) (Go.Operand.const (Go.Value.bool false)), type := 4, pos := "extra.go:40", after := #[{ on := 15, ground := Go.Ground.data }, { on := 18, ground := Go.Ground.data }], guard := none }) (v := ?v1310_19) rfl (by kernel_rfl) (by kernel_rfl) (by kernel_rfl) (fun _ _ _ h => h) (Or.inl ⟨by rfl, ?hy1310_19⟩) hHeld5 ?_
          case hy1310_19 => (intro w hSw; (try dsimp only at hSw); go_simp; first | done | with_reducible rfl)
          try simp only [Act.put, List.setIfInBounds_toArray, List.set_cons_zero, List.set_cons_succ]
          refine wpAnyH_take (i := 20) (oi := { dst := some 96, op := Go.Op.move (Go.Operand.tmp 95), type := 4, pos := "extra.go:40", after := #[{ on := 19, ground := Go.Ground.data }, { on := 15, ground := Go.Ground.chain }], guard := none }) (v := ?v1310_20) rfl (by kernel_rfl) (by kernel_rfl) (by kernel_rfl) (fun _ _ _ h => h) (Or.inl ⟨by rfl, ?hy1310_20⟩) hHeld5 ?_
          case hy1310_20 => (intro w hSw; (try dsimp only at hSw); go_simp; first | done | with_reducible rfl)
          try simp only [Act.put, List.setIfInBounds_toArray, List.set_cons_zero, List.set_cons_succ]
          refine wpAnyH_take (i := 21) (oi := { dst := some 97, op := Go.Op.move (Go.Operand.tmp 9), type := 4, pos := "extra.go:40", after := #[{ on := 20, ground := Go.Ground.guard }], guard := some (20, true) }) (v := ?v1310_21) rfl (by kernel_rfl) (by kernel_rfl) (by kernel_rfl) (fun _ _ _ h => h) (Or.inl ⟨by rfl, ?hy1310_21⟩) hHeld5 ?_
          case hy1310_21 => (intro w hSw; (try dsimp only at hSw); go_simp; first | done | with_reducible rfl)
          try simp only [Act.put, List.setIfInBounds_toArray, List.set_cons_zero, List.set_cons_succ]
          refine wpAnyH_take (i := 22) (oi := { dst := some 98, op := Go.Op.unOp Go.UnOp.not 4 (Go.Operand.tmp 97), type := 4, pos := "extra.go:40", after := #[{ on := 21, ground := Go.Ground.data }, { on := 20, ground := Go.Ground.guard }], guard := some (20, true) }) (v := ?v1310_22) rfl (by kernel_rfl) (by kernel_rfl) (by kernel_rfl) (fun _ _ _ h => h) (Or.inl ⟨by rfl, ?hy1310_22⟩) hHeld5 ?_
          case hy1310_22 => (intro w hSw; (try dsimp only at hSw); go_simp; first | done | with_reducible rfl)
          try simp only [Act.put, List.setIfInBounds_toArray, List.set_cons_zero, List.set_cons_succ]
          refine wpAnyH_take (i := 23) (oi := { dst := some 99, op := Go.Op.move (Go.Operand.tmp 98), type := 4, pos := "extra.go:40", after := #[{ on := 22, ground := Go.Ground.data }, { on := 20, ground := Go.Ground.chain }, { on := 20, ground := Go.Ground.guard }], guard := some (20, true) }) (v := ?v1310_23) rfl (by kernel_rfl) (by kernel_rfl) (by kernel_rfl) (fun _ _ _ h => h) (Or.inl ⟨by rfl, ?hy1310_23⟩) hHeld5 ?_
          case hy1310_23 => (intro w hSw; (try dsimp only at hSw); go_simp; first | done | with_reducible rfl)
          try simp only [Act.put, List.setIfInBounds_toArray, List.set_cons_zero, List.set_cons_succ]
          refine wpAnyH_take (i := 24) (oi := { dst := some 100, op := Go.Op.load 24 (Go.Operand.tmp 10), type := 24, pos := "extra.go:40", after := #[{ on := 23, ground := Go.Ground.guard }], guard := some (23, false) }) (v := ?v1310_24) rfl (by kernel_rfl) (by kernel_rfl) (by kernel_rfl) (fun _ _ _ h => h) (Or.inl ⟨by rfl, ?hy1310_24⟩) hHeld5 ?_
          case hy1310_24 => (intro w hSw; (try dsimp only at hSw); go_simp; first | done | with_reducible rfl)
          try simp only [Act.put, List.setIfInBounds_toArray, List.set_cons_zero, List.set_cons_succ]
          refine wpAnyH_take (i := 25) (oi := { dst := some 101, op := Go.Op.load 24 (Go.Operand.tmp 8), type := 24, pos := "extra.go:40", after := #[{ on := 23, ground := Go.Ground.guard }], guard := some (23, false) }) (v := ?v1310_25) rfl (by kernel_rfl) (by kernel_rfl) (by kernel_rfl) (fun _ _ _ h => h) (Or.inl ⟨by rfl, ?hy1310_25⟩) hHeld5 ?_
          case hy1310_25 => (intro w hSw; (try dsimp only at hSw); go_simp; first | done | with_reducible rfl)
          try simp only [Act.put, List.setIfInBounds_toArray, List.set_cons_zero, List.set_cons_succ]
          refine wpAnyH_ready (rs := [26]) (by kernel_rfl) (by simp) ?_
          refine AllReadyH.cons (o := { dst := some 102, op := Go.Op.call { callee := Go.Callee.value (Go.Operand.func 32), args := #[Go.Operand.tmp 101], argTypes := #[24] }, type := 24, pos := "extra.go:40", after := #[{ on := 25, ground := Go.Ground.data }, { on := 23, ground := Go.Ground.chain }, { on := 23, ground := Go.Ground.guard }], guard := some (23, false) }) rfl (fun K hK => ?_) AllReadyH.nil
          go_simp
          (with_reducible refine (neg_n g3 h12 _ (H3.out.plus (by repeat' (first | exact Plus.refl _ | refine Plus.alloc ?_ _ | refine Plus.plus ?_ _ | refine Plus.drew ?_ | refine Plus.drewN ?_ _)))).mono ?_); rintro e w1 ⟨A12, c12, rfl, a12, ⟨x12, rfl⟩⟩; (try simp only [plus_drew] at a12); replace a12 := Lib.hid a12
          go_wp2_with fail
          refine hK.out _ _ (by (try dsimp only); (refine ⟨?_, ?_, ?_, ?_, ?_, ?_, ?_, ?_, ?_, ?_, ?_, ?_, ?_, ?_, ?_, ?_, ?_, ?_⟩ <;> simp [go_sem, z2_0, z2_1, z5_0, z5_1, z6_0, z6_1, z8_0, z8_1, z10_0, z10_1, z12_0, z12_1, z14_0, z14_1, z16_0, z16_1, z18_0, z18_1])) (fun hHeld6 => ?_)
          clear hK K hHeld5
          try simp only [Act.put, List.setIfInBounds_toArray, List.set_cons_zero, List.set_cons_succ]
          refine wpAnyH_ready (rs := [27]) (by kernel_rfl) (by simp) ?_
          refine AllReadyH.cons (o := { dst := some 103, op := Go.Op.call { callee := Go.Callee.value (Go.Operand.func 30), args := #[Go.Operand.tmp 100, Go.Operand.tmp 102], argTypes := #[24, 24] }, type := 4, pos := "extra.go:40", after := #[{ on := 24, ground := Go.Ground.data }, { on := 26, ground := Go.Ground.data }, { on := 26, ground := Go.Ground.chain }, { on := 23, ground := Go.Ground.guard }], guard := some (23, false) }) rfl (fun K hK => ?_) AllReadyH.nil
          go_simp
          (with_reducible refine (same_o g4 g12 e3 _ (H4.out.plus (by repeat' (first | exact Plus.refl _ | refine Plus.alloc ?_ _ | refine Plus.plus ?_ _ | refine Plus.drew ?_ | refine Plus.drewN ?_ _))) (a12.out.plus (by repeat' (first | exact Plus.refl _ | refine Plus.alloc ?_ _ | refine Plus.plus ?_ _ | refine Plus.drew ?_ | refine Plus.drewN ?_ _)))).mono ?_); rintro e w1 ⟨rfl, ⟨z3, rfl⟩⟩
          go_wp2_with fail
          refine hK.out _ _ (by (try dsimp only); (refine ⟨?_, ?_, ?_, ?_, ?_, ?_, ?_, ?_, ?_, ?_, ?_, ?_, ?_, ?_, ?_, ?_, ?_, ?_⟩ <;> simp [go_sem, z2_0, z2_1, z5_0, z5_1, z6_0, z6_1, z8_0, z8_1, z10_0, z10_1, z12_0, z12_1, z14_0, z14_1, z16_0, z16_1, z18_0, z18_1])) (fun hHeld7 => ?_)
          clear hK K hHeld6
          try simp only [Act.put, List.setIfInBounds_toArray, List.set_cons_zero, List.set_cons_succ]
          refine wpAnyH_take (i := 28) (oi := { dst := some 104, op := Go.Op.pick (Go.Operand.tmp 99) (Go.Operand.const (Go.Value.bool true)) (Go.Operand.tmp 103), type := 4, pos := "extra.go:40", after := #[{ on := 23, ground := Go.Ground.data }, { on := 27, ground := Go.Ground.data }, { on := 20, ground := Go.Ground.guard }], guard := some (20, true) }) (v := ?v1310_28) rfl (by kernel_rfl) (by kernel_rfl) (by kernel_rfl) (fun _ _ _ h => h) (Or.inl ⟨by rfl, ?hy1310_28⟩) hHeld7 ?_
          case hy1310_28 => (intro w hSw; (try dsimp only at hSw); go_simp; first | done | with_reducible rfl)
          try simp only [Act.put, List.setIfInBounds_toArray, List.set_cons_zero, List.set_cons_succ]
          refine wpAnyH_take (i := 29) (oi := { dst := some 105, op := Go.Op.pick (Go.Operand.tmp 96) (Go.Operand.tmp 104) (Go.Operand.const (Go.Value.bool false)), type := 4, pos := "extra.go:40", after := #[{ on := 20, ground := Go.Ground.data }, { on := 28, ground := Go.Ground.data }], guard := none }) (v := ?v1310_29) rfl (by kernel_rfl) (by kernel_rfl) (by kernel_rfl) (fun _ _ _ h => h) (Or.inl ⟨by rfl, ?hy1310_29⟩) hHeld7 ?_
          case hy1310_29 => (intro w hSw; (try dsimp only at hSw); go_simp; first | done | with_reducible rfl)
          try simp only [Act.put, List.setIfInBounds_toArray, List.set_cons_zero, List.set_cons_succ]
          refine wpAnyH_take (i := 30) (oi := { dst := some 106, op := Go.Op.move (Go.Operand.tmp 105), type := 4, pos := "extra.go:40", after := #[{ on := 29, ground := Go.Ground.data }, { on := 27, ground := Go.Ground.chain }], guard := none }) (v := ?v1310_30) rfl (by kernel_rfl) (by kernel_rfl) (by kernel_rfl) (fun _ _ _ h => h) (Or.inl ⟨by rfl, ?hy1310_30⟩) hHeld7 ?_
          case hy1310_30 => (intro w hSw; (try dsimp only at hSw); go_simp; first | done | with_reducible rfl)
          try simp only [Act.put, List.setIfInBounds_toArray, List.set_cons_zero, List.set_cons_succ]
          refine wpAnyH_take (i := 31) (oi := { dst := some 107, op := Go.Op.move (Go.Operand.tmp 13), type := 31, pos := "extra.go:40", after := #[{ on := 30, ground := Go.Ground.guard }], guard := some (30, true) }) (v := ?v1310_31) rfl (by kernel_rfl) (by kernel_rfl) (by kernel_rfl) (fun _ _ _ h => h) (Or.inl ⟨by rfl, ?hy1310_31⟩) hHeld7 ?_
          case hy1310_31 => (intro w hSw; (try dsimp only at hSw); go_simp; first | done | with_reducible rfl)
          try simp only [Act.put, List.setIfInBounds_toArray, List.set_cons_zero, List.set_cons_succ]
          refine wpAnyH_take (i := 32) (oi := { dst := some 108, op := Go.Op.move (Go.Operand.tmp 15), type := 31, pos := "extra.go:40", after := #[{ on := 30, ground := Go.Ground.guard }], guard := some (30, true) }) (v := ?v1310_32) rfl (by kernel_rfl) (by kernel_rfl) (by kernel_rfl) (fun _ _ _ h => h) (Or.inl ⟨by rfl, ?hy1310_32⟩) hHeld7 ?_
          case hy1310_32 => (intro w hSw; (try dsimp only at hSw); go_simp; first | done | with_reducible rfl)
          try simp only [Act.put, List.setIfInBounds_toArray, List.set_cons_zero, List.set_cons_succ]
          refine wpAnyH_take (i := 33) (oi := { dst := some 109, op := Go.Op.binOp Go.BinOp.eql 31 (Go.Operand.tmp 107) (Go.Operand.tmp 108) 31, type := 4, pos := "extra.go:40", after := #[{ on := 31, ground := Go.Ground.data }, { on := 32, ground := Go.Ground.data }, { on := 30, ground := Go.Ground.guard }], guard := some (30, true) }) (v := ?v1310_33) rfl (by kernel_rfl) (by kernel_rfl) (by kernel_rfl) (fun _ _ _ h => h) (Or.inl ⟨by rfl, ?hy1310_33⟩) hHeld7 ?_
          case hy1310_33 => (intro w hSw; (try dsimp only at hSw); go_simp; first | done | with_reducible rfl)
          try simp only [Act.put, List.setIfInBounds_toArray, List.set_cons_zero, List.set_cons_succ]
          refine wpAnyH_take (i := 34) (oi := { dst := some 110, op := Go.Op.pick (Go.Operand.tmp 106) (Go.Operand.tmp 109) (Go.Operand.const (Go.Value.bool false)), type := 4, pos := "extra.go:40", after := #[{ on := 30, ground := Go.Ground.data }, { on := 33, ground := Go.Ground.data }], guard := none }) (v := ?v1310_34) rfl (by kernel_rfl) (by kernel_rfl) (by kernel_rfl) (fun _ _ _ h => h) (Or.inl ⟨by rfl, ?hy1310_34⟩) hHeld7 ?_
          case hy1310_34 => (intro w hSw; (try dsimp only at hSw); go_simp; first | done | with_reducible rfl)
          try simp only [Act.put, List.setIfInBounds_toArray, List.set_cons_zero, List.set_cons_succ]
          refine wpAnyH_take (i := 35) (oi := { dst := some 111, op := Go.Op.move (Go.Operand.tmp 110), type := 4, pos := "extra.go:40", after := #[{ on := 34, ground := Go.Ground.data }, { on := 30, ground := Go.Ground.chain }], guard := none }) (v := ?v1310_35) rfl (by kernel_rfl) (by kernel_rfl) (by kernel_rfl) (fun _ _ _ h => h) (Or.inl ⟨by rfl, ?hy1310_35⟩) hHeld7 ?_
          case hy1310_35 => (intro w hSw; (try dsimp only at hSw); go_simp; first | done | with_reducible rfl)
          try simp only [Act.put, List.setIfInBounds_toArray, List.set_cons_zero, List.set_cons_succ]
          refine wpAnyH_take (i := 36) (oi := { dst := some 112, op := Go.Op.move (Go.Operand.tmp 15), type := 31, pos := "extra.go:40", after := #[{ on := 35, ground := Go.Ground.guard }], guard := some (35, true) }) (v := ?v1310_36) rfl (by kernel_rfl) (by kernel_rfl) (by kernel_rfl) (fun _ _ _ h => h) (Or.inl ⟨by rfl, ?hy1310_36⟩) hHeld7 ?_
          case hy1310_36 => (intro w hSw; (try dsimp only at hSw); go_simp; first | done | with_reducible rfl)
          try simp only [Act.put, List.setIfInBounds_toArray, List.set_cons_zero, List.set_cons_succ]
          refine wpAnyH_take (i := 37) (oi := { dst := some 113, op := Go.Op.move (Go.Operand.tmp 17), type := 31, pos := "extra.go:40", after := #[{ on := 35, ground := Go.Ground.guard }], guard := some (35, true) }) (v := ?v1310_37) rfl (by kernel_rfl) (by kernel_rfl) (by kernel_rfl) (fun _ _ _ h => h) (Or.inl ⟨by rfl, ?hy1310_37⟩) hHeld7 ?_
          case hy1310_37 => (intro w hSw; (try dsimp only at hSw); go_simp; first | done | with_reducible rfl)
          try simp only [Act.put, List.setIfInBounds_toArray, List.set_cons_zero, List.set_cons_succ]
          refine wpAnyH_take (i := 38) (oi := { dst := some 114, op := Go.Op.binOp Go.BinOp.eql 31 (Go.Operand.tmp 112) (Go.Operand.tmp 113) 31, type := 4, pos := "extra.go:40", after := #[{ on := 36, ground := Go.Ground.data }, { on := 37, ground := Go.Ground.data }, { on := 35, ground := Go.Ground.guard }], guard := some (35, true) }) (v := ?v1310_38) rfl (by kernel_rfl) (by kernel_rfl) (by kernel_rfl) (fun _ _ _ h => h) (Or.inl ⟨by rfl, ?hy1310_38⟩) hHeld7 ?_
          case hy1310_38 => (intro w hSw; (try dsimp only at hSw); go_simp; first | done | with_reducible rfl)
          try simp only [Act.put, List.setIfInBounds_toArray, List.set_cons_zero, List.set_cons_succ]
          refine wpAnyH_take (i := 39) (oi := { dst := some 115, op := Go.Op.pick (Go.Operand.tmp 111) (Go.Operand.tmp 114) (Go.Operand.const (Go.Value.bool false)), type := 4, pos := "extra.go:40", after := #[{ on := 35, ground := Go.Ground.data }, { on := 38, ground := Go.Ground.data }], guard := none }) (v := ?v1310_39) rfl (by kernel_rfl) (by kernel_rfl) (by kernel_rfl) (fun _ _ _ h => h) (Or.inl ⟨by rfl, ?hy1310_39⟩) hHeld7 ?_
          case hy1310_39 => (intro w hSw; (try dsimp only at hSw); go_simp; first | done | with_reducible rfl)
          try simp only [Act.put, List.setIfInBounds_toArray, List.set_cons_zero, List.set_cons_succ]
          refine wpAnyH_take (i := 40) (oi := { dst := some 116, op := Go.Op.move (Go.Operand.tmp 115), type := 4, pos := "extra.go:40", after := #[{ on := 39, ground := Go.Ground.data }, { on := 35, ground := Go.Ground.chain }], guard := none }) (v := ?v1310_40) rfl (by kernel_rfl) (by kernel_rfl) (by kernel_rfl) (fun _ _ _ h => h) (Or.inl ⟨by rfl, ?hy1310_40⟩) hHeld7 ?_
          case hy1310_40 => (intro w hSw; (try dsimp only at hSw); go_simp; first | done | with_reducible rfl)
          try simp only [Act.put, List.setIfInBounds_toArray, List.set_cons_zero, List.set_cons_succ]
          refine wpAnyH_take (i := 41) (oi := { dst := some 117, op := Go.Op.move (Go.Operand.tmp 17), type := 31, pos := "extra.go:40", after := #[{ on := 40, ground := Go.Ground.guard }], guard := some (40, true) }) (v := ?v1310_41) rfl (by kernel_rfl) (by kernel_rfl) (by kernel_rfl) (fun _ _ _ h => h) (Or.inl ⟨by rfl, ?hy1310_41⟩) hHeld7 ?_
          case hy1310_41 => (intro w hSw; (try dsimp only at hSw); go_simp; first | done | with_reducible rfl)
          try simp only [Act.put, List.setIfInBounds_toArray, List.set_cons_zero, List.set_cons_succ]
          refine wpAnyH_take (i := 42) (oi := { dst := some 118, op := Go.Op.move (Go.Operand.tmp 19), type := 31, pos := "extra.go:40", after := #[{ on := 40, ground := Go.Ground.guard }], guard := some (40, true) }) (v := ?v1310_42) rfl (by kernel_rfl) (by kernel_rfl) (by kernel_rfl) (fun _ _ _ h => h) (Or.inl ⟨by rfl, ?hy1310_42⟩) hHeld7 ?_
          case hy1310_42 => (intro w hSw; (try dsimp only at hSw); go_simp; first | done | with_reducible rfl)
          try simp only [Act.put, List.setIfInBounds_toArray, List.set_cons_zero, List.set_cons_succ]
          refine wpAnyH_take (i := 43) (oi := { dst := some 119, op := Go.Op.binOp Go.BinOp.eql 31 (Go.Operand.tmp 117) (Go.Operand.tmp 118) 31, type := 4, pos := "extra.go:40", after := #[{ on := 41, ground := Go.Ground.data }, { on := 42, ground := Go.Ground.data }, { on := 40, ground := Go.Ground.guard }], guard := some (40, true) }) (v := ?v1310_43) rfl (by kernel_rfl) (by kernel_rfl) (by kernel_rfl) (fun _ _ _ h => h) (Or.inl ⟨by rfl, ?hy1310_43⟩) hHeld7 ?_
          case hy1310_43 => (intro w hSw; (try dsimp only at hSw); go_simp; first | done | with_reducible rfl)
          try simp only [Act.put, List.setIfInBounds_toArray, List.set_cons_zero, List.set_cons_succ]
          refine wpAnyH_take (i := 44) (oi := { dst := some 120, op := Go.Op.pick (Go.Operand.tmp 116) (Go.Operand.tmp 119) (Go.Operand.const (Go.Value.bool false)), type := 4, pos := "extra.go:40", after := #[{ on := 40, ground := Go.Ground.data }, { on := 43, ground := Go.Ground.data }], guard := none }) (v := ?v1310_44) rfl (by kernel_rfl) (by kernel_rfl) (by kernel_rfl) (fun _ _ _ h => h) (Or.inl ⟨by rfl, ?hy1310_44⟩) hHeld7 ?_
          case hy1310_44 => (intro w hSw; (try dsimp only at hSw); go_simp; first | done | with_reducible rfl)
          try simp only [Act.put, List.setIfInBounds_toArray, List.set_cons_zero, List.set_cons_succ]
          refine wpAnyH_take (i := 45) (oi := { dst := some 121, op := Go.Op.move (Go.Operand.tmp 120), type := 4, pos := "extra.go:40", after := #[{ on := 44, ground := Go.Ground.data }, { on := 40, ground := Go.Ground.chain }], guard := none }) (v := ?v1310_45) rfl (by kernel_rfl) (by kernel_rfl) (by kernel_rfl) (fun _ _ _ h => h) (Or.inl ⟨by rfl, ?hy1310_45⟩) hHeld7 ?_
          case hy1310_45 => (intro w hSw; (try dsimp only at hSw); go_simp; first | done | with_reducible rfl)
          try simp only [Act.put, List.setIfInBounds_toArray, List.set_cons_zero, List.set_cons_succ]
          refine wpAnyH_take (i := 46) (oi := { dst := some 122, op := Go.Op.move (Go.Operand.tmp 13), type := 31, pos := "extra.go:40", after := #[{ on := 45, ground := Go.Ground.guard }], guard := some (45, true) }) (v := ?v1310_46) rfl (by kernel_rfl) (by kernel_rfl) (by kernel_rfl) (fun _ _ _ h => h) (Or.inl ⟨by rfl, ?hy1310_46⟩) hHeld7 ?_
          case hy1310_46 => (intro w hSw; (try dsimp only at hSw); go_simp; first | done | with_reducible rfl)
          try simp only [Act.put, List.setIfInBounds_toArray, List.set_cons_zero, List.set_cons_succ]
          refine wpAnyH_take (i := 47) (oi := { dst := some 123, op := Go.Op.binOp Go.BinOp.neq 31 (Go.Operand.tmp 122) (Go.Operand.const (Go.Value.int Go.IntKind.i64 0)) 31, type := 4, pos := "extra.go:40", after := #[{ on := 46, ground := Go.Ground.data }, { on := 45, ground := Go.Ground.guard }], guard := some (45, true) }) (v := ?v1310_47) rfl (by kernel_rfl) (by kernel_rfl) (by kernel_rfl) (fun _ _ _ h => h) (Or.inl ⟨by rfl, ?hy1310_47⟩) hHeld7 ?_
          case hy1310_47 => (intro w hSw; (try dsimp only at hSw); go_simp; first | done | with_reducible rfl)
          try simp only [Act.put, List.setIfInBounds_toArray, List.set_cons_zero, List.set_cons_succ]
          refine wpAnyH_take (i := 48) (oi := { dst := some 124, op := Go.Op.move (Go.Operand.tmp 123), type := 4, pos := "extra.go:40", after := #[{ on := 47, ground := Go.Ground.data }, { on := 45, ground := Go.Ground.chain }, { on := 45, ground := Go.Ground.guard }], guard := some (45, true) }) (v := ?v1310_48) rfl (by kernel_rfl) (by kernel_rfl) (by kernel_rfl) (fun _ _ _ h => h) (Or.inl ⟨by rfl, ?hy1310_48⟩) hHeld7 ?_
          case hy1310_48 => (intro w hSw; (try dsimp only at hSw); go_simp; first | done | with_reducible rfl)
          try simp only [Act.put, List.setIfInBounds_toArray, List.set_cons_zero, List.set_cons_succ]
          refine wpAnyH_take (i := 49) (oi := { dst := some 125, op := Go.Op.load 24 (Go.Operand.tmp 14), type := 24, pos := "extra.go:40", after := #[{ on := 48, ground := Go.Ground.guard }], guard := some (48, false) }) (v := undef) rfl (by kernel_rfl) (by kernel_rfl) (by kernel_rfl) (fun _ _ _ h => h) (Or.inr ⟨by rfl, rfl⟩) hHeld7 ?_
          try simp only [Act.put, List.setIfInBounds_toArray, List.set_cons_zero, List.set_cons_succ]
          refine wpAnyH_take (i := 50) (oi := { dst := some 126, op := Go.Op.load 24 (Go.Operand.tmp 12), type := 24, pos := "extra.go:40", after := #[{ on := 48, ground := Go.Ground.guard }], guard := some (48, false) }) (v := undef) rfl (by kernel_rfl) (by kernel_rfl) (by kernel_rfl) (fun _ _ _ h => h) (Or.inr ⟨by rfl, rfl⟩) hHeld7 ?_
          try simp only [Act.put, List.setIfInBounds_toArray, List.set_cons_zero, List.set_cons_succ]
          refine wpAnyH_take (i := 51) (oi := { dst := some 127, op := Go.Op.call { callee := Go.Callee.value (Go.Operand.func 32), args := #[Go.Operand.tmp 126], argTypes := #[24] }, type := 24, pos := "extra.go:40", after := #[{ on := 50, ground := Go.Ground.data }, { on := 48, ground := Go.Ground.chain }, { on := 48, ground := Go.Ground.guard }], guard := some (48, false) }) (v := undef) rfl (by kernel_rfl) (by kernel_rfl) (by kernel_rfl) (fun _ _ _ h => h) (Or.inr ⟨by rfl, rfl⟩) hHeld7 ?_
          try simp only [Act.put, List.setIfInBounds_toArray, List.set_cons_zero, List.set_cons_succ]
          refine wpAnyH_take (i := 52) (oi := { dst := some 128, op := Go.Op.call { callee := Go.Callee.value (Go.Operand.func 30), args := #[Go.Operand.tmp 125, Go.Operand.tmp 127], argTypes := #[24, 24] }, type := 4, pos := "extra.go:40", after := #[{ on := 49, ground := Go.Ground.data }, { on := 51, ground := Go.Ground.data }, { on := 51, ground := Go.Ground.chain }, { on := 48, ground := Go.Ground.guard }], guard := some (48, false) }) (v := undef) rfl (by kernel_rfl) (by kernel_rfl) (by kernel_rfl) (fun _ _ _ h => h) (Or.inr ⟨by rfl, rfl⟩) hHeld7 ?_
          try simp only [Act.put, List.setIfInBounds_toArray, List.set_cons_zero, List.set_cons_succ]
          refine wpAnyH_take (i := 53) (oi := { dst := some 129, op := Go.Op.move (Go.Operand.tmp 128), type := 4, pos := "extra.go:40", after := #[{ on := 52, ground := Go.Ground.data }, { on := 52, ground := Go.Ground.chain }, { on := 48, ground := Go.Ground.guard }], guard := some (48, false) }) (v := undef) rfl (by kernel_rfl) (by kernel_rfl) (by kernel_rfl) (fun _ _ _ h => h) (Or.inr ⟨by rfl, rfl⟩) hHeld7 ?_
          try simp only [Act.put, List.setIfInBounds_toArray, List.set_cons_zero, List.set_cons_succ]
          refine wpAnyH_take (i := 54) (oi := { dst := some 130, op := Go.Op.load 24 (Go.Operand.tmp 18), type := 24, pos := "extra.go:40", after := #[{ on := 53, ground := Go.Ground.guard }], guard := some (53, true) }) (v := undef) rfl (by kernel_rfl) (by kernel_rfl) (by kernel_rfl) (fun _ _ _ h => h) (Or.inr ⟨by rfl, rfl⟩) hHeld7 ?_
          try simp only [Act.put, List.setIfInBounds_toArray, List.set_cons_zero, List.set_cons_succ]
          refine wpAnyH_take (i := 55) (oi := { dst := some 131, op := Go.Op.load 24 (Go.Operand.tmp 16), type := 24, pos := "extra.go:40", after := #[{ on := 53, ground := Go.Ground.guard }], guard := some (53, true) }) (v := undef) rfl (by kernel_rfl) (by kernel_rfl) (by kernel_rfl) (fun _ _ _ h => h) (Or.inr ⟨by rfl, rfl⟩) hHeld7 ?_
          try simp only [Act.put, List.setIfInBounds_toArray, List.set_cons_zero, List.set_cons_succ]
          refine wpAnyH_take (i := 56) (oi := { dst := some 132, op := Go.Op.call { callee := Go.Callee.value (Go.Operand.func 32), args := #[Go.Operand.tmp 131], argTypes := #[24] }, type := 24, pos := "extra.go:40", after := #[{ on := 55, ground := Go.Ground.data }, { on := 53, ground := Go.Ground.chain }, { on := 53, ground := Go.Ground.guard }], guard := some (53, true) }) (v := undef) rfl (by kernel_rfl) (by kernel_rfl) (by kernel_rfl) (fun _ _ _ h => h) (Or.inr ⟨by rfl, rfl⟩) hHeld7 ?_
          try simp only [Act.put, List.setIfInBounds_toArray, List.set_cons_zero, List.set_cons_succ]
          refine wpAnyH_take (i := 57) (oi := { dst := some 133, op := Go.Op.call { callee := Go.Callee.value (Go.Operand.func 30), args := #[Go.Operand.tmp 130, Go.Operand.tmp 132], argTypes := #[24, 24] }, type := 4, pos := "extra.go:40", after := #[{ on := 54, ground := Go.Ground.data }, { on := 56, ground := Go.Ground.data }, { on := 56, ground := Go.Ground.chain }, { on := 53, ground := Go.Ground.guard }], guard := some (53, true) }) (v := undef) rfl (by kernel_rfl) (by kernel_rfl) (by kernel_rfl) (fun _ _ _ h => h) (Or.inr ⟨by rfl, rfl⟩) hHeld7 ?_
          try simp only [Act.put, List.setIfInBounds_toArray, List.set_cons_zero, List.set_cons_succ]
          refine wpAnyH_take (i := 58) (oi := { dst := some 134, op := Go.Op.pick (Go.Operand.tmp 129) (Go.Operand.tmp 133) (Go.Operand.const (Go.Value.bool false)), type := 4, pos := "extra.go:40", after := #[{ on := 53, ground := Go.Ground.data }, { on := 57, ground := Go.Ground.data }, { on := 48, ground := Go.Ground.guard }], guard := some (48, false) }) (v := undef) rfl (by kernel_rfl) (by kernel_rfl) (by kernel_rfl) (fun _ _ _ h => h) (Or.inr ⟨by rfl, rfl⟩) hHeld7 ?_
          try simp only [Act.put, List.setIfInBounds_toArray, List.set_cons_zero, List.set_cons_succ]
          refine wpAnyH_take (i := 59) (oi := { dst := some 135, op := Go.Op.pick (Go.Operand.tmp 124) (Go.Operand.const (Go.Value.bool true)) (Go.Operand.tmp 134), type := 4, pos := "extra.go:40", after := #[{ on := 48, ground := Go.Ground.data }, { on := 58, ground := Go.Ground.data }, { on := 45, ground := Go.Ground.guard }], guard := some (45, true) }) (v := ?v1310_59) rfl (by kernel_rfl) (by kernel_rfl) (by kernel_rfl) (fun _ _ _ h => h) (Or.inl ⟨by rfl, ?hy1310_59⟩) hHeld7 ?_
          case hy1310_59 => (intro w hSw; (try dsimp only at hSw); go_simp; first | done | with_reducible rfl)
          try simp only [Act.put, List.setIfInBounds_toArray, List.set_cons_zero, List.set_cons_succ]
          refine wpAnyH_take (i := 60) (oi := { dst := some 136, op := Go.Op.pick (Go.Operand.tmp 121) (Go.Operand.tmp 135) (Go.Operand.const (Go.Value.bool false)), type := 4, pos := "extra.go:40", after := #[{ on := 45, ground := Go.Ground.data }, { on := 59, ground := Go.Ground.data }], guard := none }) (v := ?v1310_60) rfl (by kernel_rfl) (by kernel_rfl) (by kernel_rfl) (fun _ _ _ h => h) (Or.inl ⟨by rfl, ?hy1310_60⟩) hHeld7 ?_
          case hy1310_60 => (intro w hSw; (try dsimp only at hSw); go_simp; first | done | with_reducible rfl)
          try simp only [Act.put, List.setIfInBounds_toArray, List.set_cons_zero, List.set_cons_succ]
          refine wpAnyH_take (i := 61) (oi := { dst := some 4, op := Go.Op.assign (Go.Operand.tmp 136), type := 4, pos := "extra.go:40", after := #[{ on := 60, ground := Go.Ground.data }, { on := 57, ground := Go.Ground.chain }, { on := 0, ground := Go.Ground.phase }, { on := 1, ground := Go.Ground.phase }, { on := 2, ground := Go.Ground.phase }, { on := 3, ground := Go.Ground.phase }, { on := 4, ground := Go.Ground.phase }, { on := 5, ground := Go.Ground.phase }, { on := 6, ground := Go.Ground.phase }, { on := 7, ground := Go.Ground.phase }, { on := 8, ground := Go.Ground.phase }, { on := 9, ground := Go.Ground.phase }, { on := 10, ground := Go.Ground.phase }, { on := 11, ground := Go.Ground.phase }, { on := 12, ground := Go.Ground.phase }, { on := 13, ground := Go.Ground.phase }, { on := 14, ground := Go.Ground.phase }, { on := 15, ground := Go.Ground.phase }, { on := 16, ground := Go.Ground.phase }, { on := 17, ground := Go.Ground.phase }, { on := 18, ground := Go.Ground.phase }, { on := 19, ground := Go.Ground.phase }, { on := 20, ground := Go.Ground.phase }, { on := 21, ground := Go.Ground.phase }, { on := 22, ground := Go.Ground.phase }, { on := 23, ground := Go.Ground.phase }, { on := 24, ground := Go.Ground.phase }, { on := 25, ground := Go.Ground.phase }, { on := 26, ground := Go.Ground.phase }, { on := 27, ground := Go.Ground.phase }, { on := 28, ground := Go.Ground.phase }, { on := 29, ground := Go.Ground.phase }, { on := 30, ground := Go.Ground.phase }, { on := 31, ground := Go.Ground.phase }, { on := 32, ground := Go.Ground.phase }, { on := 33, ground := Go.Ground.phase }, { on := 34, ground := Go.Ground.phase }, { on := 35, ground := Go.Ground.phase }, { on := 36, ground := Go.Ground.phase }, { on := 37, ground := Go.Ground.phase }, { on := 38, ground := Go.Ground.phase }, { on := 39, ground := Go.Ground.phase }, { on := 40, ground := Go.Ground.phase }, { on := 41, ground := Go.Ground.phase }, { on := 42, ground := Go.Ground.phase }, { on := 43, ground := Go.Ground.phase }, { on := 44, ground := Go.Ground.phase }, { on := 45, ground := Go.Ground.phase }, { on := 46, ground := Go.Ground.phase }, { on := 47, ground := Go.Ground.phase }, { on := 48, ground := Go.Ground.phase }, { on := 49, ground := Go.Ground.phase }, { on := 50, ground := Go.Ground.phase }, { on := 51, ground := Go.Ground.phase }, { on := 52, ground := Go.Ground.phase }, { on := 53, ground := Go.Ground.phase }, { on := 54, ground := Go.Ground.phase }, { on := 55, ground := Go.Ground.phase }, { on := 56, ground := Go.Ground.phase }, { on := 57, ground := Go.Ground.phase }, { on := 58, ground := Go.Ground.phase }, { on := 59, ground := Go.Ground.phase }, { on := 60, ground := Go.Ground.phase }], guard := none }) (v := ?v1310_61) rfl (by kernel_rfl) (by kernel_rfl) (by kernel_rfl) (fun _ _ _ h => h) (Or.inl ⟨by rfl, ?hy1310_61⟩) hHeld7 ?_
          case hy1310_61 => (intro w hSw; (try dsimp only at hSw); go_simp; first | done | with_reducible rfl)
          try simp only [Act.put, List.setIfInBounds_toArray, List.set_cons_zero, List.set_cons_succ]
          refine wpAnyH_done (by kernel_rfl) ?_ _
          refine NoPanic.normal ?_
          go_wp2_with fail
          go_returns
          refine ⟨by simp, ?_⟩
          repeat' (first | exact HP2.out | exact Plus.refl _ | refine Plus.alloc ?_ _ | refine Plus.plus ?_ _ | refine Plus.drew ?_ | refine Plus.drewN ?_ _)

set_option maxRecDepth 100000 in
set_option maxHeartbeats 4000000 in
theorem signs_few (an : Bool) (A : Option Addr) (n c : Nat) (bn : Bool) (C : Option Addr) (m d0 : Nat) (w : World) (hf : ¬ (n ≤ 40 ∧ m ≤ 40)) :
    Calls Try.prog 10 #[.agg #[.bool an, .slice A n c], .agg #[.bool bn, .slice C m d0]] w fun e w' => e = .returned (.bool true) ∧ Plus w w' := by
  obtain ⟨v1, e1⟩ : ∃ v, decide (n ≤ 40) = v := ⟨_, rfl⟩
  obtain ⟨v2, e2⟩ : ∃ v, decide (m ≤ 40) = v := ⟨_, rfl⟩
  have hff : ¬ (v1 = true ∧ v2 = true) := fun ⟨q1, q2⟩ => hf (by
    subst q1 q2
    exact ⟨of_decide_eq_true e1, of_decide_eq_true e2⟩)
  have E1 := Lib.hid e1
  have E2 := Lib.hid e2
  clear e1 e2 hf
  go_enter Try.func10, Try.ntmps10
  go_wp2_with fail
  refine (first_c _).mono ?_
  rintro e w1 ⟨rfl, ⟨y0, rfl⟩⟩
  go_wp2_with fail
  refine (few_c E1 _).mono ?_
  rintro e w1 ⟨rfl, ⟨y1, rfl⟩⟩
  cases v1
  · go_wp2_with fail
    refine (first_c _).mono ?_
    rintro e w1 ⟨rfl, ⟨y2, rfl⟩⟩
    go_wp2_with fail
    go_ret
    exact ⟨rfl, (by repeat' (first | exact Plus.refl _ | refine Plus.alloc ?_ _ | refine Plus.plus ?_ _ | refine Plus.drew ?_ | refine Plus.drewN ?_ _))⟩
  go_wp2_with fail
  refine (few_c E2 _).mono ?_
  rintro e w1 ⟨rfl, ⟨y2, rfl⟩⟩
  cases v2
  · go_wp2_with fail
    refine (first_c _).mono ?_
    rintro e w1 ⟨rfl, ⟨y3, rfl⟩⟩
    go_wp2_with fail
    go_ret
    exact ⟨rfl, (by repeat' (first | exact Plus.refl _ | refine Plus.alloc ?_ _ | refine Plus.plus ?_ _ | refine Plus.drew ?_ | refine Plus.drewN ?_ _))⟩
  · exact (hff (by simp)).elim

theorem nm_if (s : Int) : (if s.natAbs < B ^ 8 then s else 0).natAbs < B ^ 8 := by
  split
  · assumption
  · decide
theorem nm_div {a b : Int} (ha : a.natAbs < B ^ 8) : (if b.natAbs = 0 then 0 else a.tdiv b).natAbs < B ^ 8 := by
  split
  · decide
  · rw [Int.natAbs_tdiv]
    exact Nat.lt_of_le_of_lt (Nat.div_le_self _ _) ha
theorem nm_rem {a b : Int} (ha : a.natAbs < B ^ 8) : (if b.natAbs = 0 then 0 else a.tmod b).natAbs < B ^ 8 := by
  split
  · decide
  · rw [Int.natAbs_tmod]
    exact Nat.lt_of_le_of_lt (Nat.mod_le _ _) ha
theorem signs_w (an : Bool) (A : Option Addr) (xs : List Nat) (n c : Nat) (bn : Bool) (C : Option Addr) (ys : List Nat) (m d0 : Nat) (w : World) (ha : Raw w A xs n c) (hb : Raw w C ys m d0) :
    Calls Try.prog 10 #[.agg #[.bool an, .slice A n c], .agg #[.bool bn, .slice C m d0]] w fun e w' => e = .returned (.bool true) ∧ Plus w w' := by
  by_cases hf : n ≤ 40 ∧ m ≤ 40
  · obtain ⟨f1, f2⟩ := hf
    have hA := ha.arg f1
    have hB := hb.arg f2
    obtain ⟨a, ga⟩ : ∃ a, bigI an xs = a := ⟨_, rfl⟩
    obtain ⟨b, gb⟩ : ∃ b, bigI bn ys = b := ⟨_, rfl⟩
    have hab : a.natAbs < B ^ 8 := by rw [← ga]; exact bigI_abs hA.lim.1
    have hbb : b.natAbs < B ^ 8 := by rw [← gb]; exact bigI_abs hB.lim.1
    have hna : (-a).natAbs < B ^ 8 := by rw [Int.natAbs_neg]; exact hab
    have m1 := Nm.mk' (n := -a) hna
    have m2 := Nm.mk' (n := 0) (by decide)
    have m3 := Nm.mk' (nm_if (a * b))
    have m4 := Nm.mk' (nm_if (-a * b))
    have m5 := Nm.mk' (nm_div (b := b) hab)
    have m6 := Nm.mk' (nm_div (b := b) hna)
    have m7 := Nm.mk' (nm_rem (b := b) hab)
    have m8 := Nm.mk' (n := -b) (by rw [Int.natAbs_neg]; exact hbb)
    have m9 := Nm.mk' (nm_rem (b := -b) hna)
    have m10 := Nm.mk' hab
    have m12 := Nm.mk' (n := -(if (a * b).natAbs < B ^ 8 then a * b else 0)) (by rw [Int.natAbs_neg]; exact nm_if _)
    have m13 := Nm.mk' (n := -(if b.natAbs = 0 then 0 else a.tdiv b)) (by rw [Int.natAbs_neg]; exact nm_div hab)
    have m14 := Nm.mk' (n := -(if b.natAbs = 0 then 0 else a.tmod b)) (by rw [Int.natAbs_neg]; exact nm_rem hab)
    have hmul : (-a * b).natAbs = (a * b).natAbs := by rw [Int.neg_mul, Int.natAbs_neg]
    have hs0 : (a + -a) = 0 := by omega
    refine signs_h an bn A C xs ys _ _ _ _ _ _ _ _ _ _ _ _ _ _ n m c d0 a b _ _ 0 _ _ _ _ _ _ _ _ _ _ (decide ((a * b).natAbs < B ^ 8)) _ _ _ _ _ _ _ _ _ _ _ _ _ _ w (Lib.hid hA) (Lib.hid hB) (Lib.hid (decide_eq_true f1)) (Lib.hid (decide_eq_true f2)) (Lib.hid ga) (Lib.hid gb)
      (Lib.hid ⟨m1, rfl⟩) (Lib.hid m1.val) (Lib.hid ⟨m2, ?_, ?_⟩) (Lib.hid m2.val) (Lib.hid ⟨m3, rfl, rfl⟩) (Lib.hid m3.val) (Lib.hid ⟨m4, ?_, rfl⟩) (Lib.hid m4.val) (Lib.hid ⟨m5, rfl, rfl⟩) (Lib.hid m5.val) (Lib.hid ⟨m6, rfl, rfl⟩) (Lib.hid m6.val) (Lib.hid ⟨m7, rfl, rfl⟩) (Lib.hid m7.val)
      (Lib.hid ⟨m8, rfl⟩) (Lib.hid m8.val) (Lib.hid ⟨m9, ?_, rfl⟩) (Lib.hid m9.val) (Lib.hid ⟨m10, ?_⟩) (Lib.hid m10.val) (Lib.hid (decide_eq_true rfl)) (Lib.hid ⟨m2, rfl, by decide, by decide⟩) (Lib.hid m2.val) (Lib.hid (decide_eq_true rfl))
      (Lib.hid ⟨m12, rfl⟩) (Lib.hid m12.val) (Lib.hid ?_) (Lib.hid ⟨m13, rfl⟩) (Lib.hid m13.val) (Lib.hid ?_) (Lib.hid ⟨m14, rfl⟩) (Lib.hid m14.val) (Lib.hid ?_) (Lib.hid ?_)
    · rw [hs0]; decide
    · rw [hs0]; decide
    · rw [hmul]
    · rw [Int.natAbs_neg]
    · omega
    · intro h
      have h := of_decide_eq_true h
      refine decide_eq_true ?_
      rw [if_pos h, if_pos (by rw [hmul]; exact h), Int.neg_mul]
    · intro h
      refine decide_eq_true ?_
      by_cases hz : b.natAbs = 0
      · rw [if_pos hz] at h
        cases h
      · rw [if_neg hz, if_neg hz, Int.neg_tdiv]
    · intro h
      refine decide_eq_true ?_
      by_cases hz : b.natAbs = 0
      · rw [if_pos hz] at h
        cases h
      · rw [if_neg hz, if_neg (by rw [Int.natAbs_neg]; exact hz), Int.tmod_neg, Int.neg_tmod]
    · by_cases hz : b.natAbs = 0
      · exact .inr (if_pos hz)
      · exact .inl (if_neg hz)
  · exact signs_few an A n c bn C m d0 w hf
end Go.Proofs.Ythaokkmbghgopaa
