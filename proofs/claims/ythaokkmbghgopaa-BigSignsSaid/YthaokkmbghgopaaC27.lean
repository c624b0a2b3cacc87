/- The chapter's examples. -/
import Derived.Test.YthaokkmbghgopaaC26
namespace Go.Proofs.Ythaokkmbghgopaa
open Go.RowKit


theorem nm (n : Int) (h : n.natAbs < B ^ 8) : ∃ pb us, Nm n pb us := ⟨_, _, Nm.mk' h⟩
theorem info24 : True := trivial

set_option maxRecDepth 100000 in
set_option maxHeartbeats 16000000 in
theorem first_h (p1 p2 p3 p4 p5 p6 p7 p8 p9 p0 : Bool) (u1 u2 u3 u4 u5 u6 u7 u8 u9 u0 : List Nat)
    (h1 : Hid (OfN (-7) (-7) p1 u1)) (h2 : Hid (OfN 2 2 p2 u2)) (g1 : Hid (bigI p1 u1 = -7)) (g2 : Hid (bigI p2 u2 = 2)) (h3 : Hid (DivN (-7) 2 (-3) 0 p3 u3)) (g3 : Hid (bigI p3 u3 = -3))
    (h4 : Hid (OfN 200 200 p4 u4)) (g4 : Hid (bigI p4 u4 = 200)) (h5 : Hid (AsIN 8 200 (-56) 0 p5 u5)) (g5 : Hid (bigI p5 u5 = -56)) (h6 : Hid (ParN 0 2 ⟨#[45, 48]⟩ p6 u6))
    (h7 : Hid (OfN 1 1 p7 u7)) (g7 : Hid (bigI p7 u7 = 1)) (h8 : Hid (OfN 0 0 p8 u8)) (g8 : Hid (bigI p8 u8 = 0)) (h9 : Hid (DivN 1 0 0 4 p9 u9)) (h0 : Hid (FwN 18446744073709551615 (-1) true p0 u0)) (g0 : Hid (bigI p0 u0 = -1))
    (t3 : Hid ((⟨(txt (-3)).toArray⟩ : ByteArray) = ⟨#[45, 51]⟩)) (t5 : Hid ((⟨(txt (-56)).toArray⟩ : ByteArray) = ⟨#[45, 53, 54]⟩)) (t0 : Hid ((⟨(txt (-1)).toArray⟩ : ByteArray) = ⟨#[45, 49]⟩)) (m3 : Hid (mayL p3 u3 = true)) (w : World) :
    Calls Try.prog 14 #[] w fun e w' => e = .returned (.bool true) ∧ Plus w w' := by
  go_enter Try.func14, Try.ntmps14
  go_wp2_with fail
  refine (of_n h1 _).mono ?_
  rintro e w1 ⟨A1, c1, rfl, a1, ⟨x1, rfl⟩⟩
  replace a1 := Lib.hid a1
  go_wp2_with fail
  refine (of_n h2 _).mono ?_
  rintro e w1 ⟨A2, c2, rfl, a2, ⟨x2, rfl⟩⟩
  replace a2 := Lib.hid a2
  go_wp2_with fail
  refine (div_n g1 g2 h3 _ (a1.out.plus (by repeat' (first | exact Plus.refl _ | refine Plus.alloc ?_ _ | refine Plus.plus ?_ _ | refine Plus.drew ?_ | refine Plus.drewN ?_ _))) (a2.out.plus (by repeat' (first | exact Plus.refl _ | refine Plus.alloc ?_ _ | refine Plus.plus ?_ _ | refine Plus.drew ?_ | refine Plus.drewN ?_ _)))).mono ?_
  rintro e w1 ⟨A3, c3, rfl, a3, ⟨x3, rfl⟩⟩
  replace a3 := Lib.hid a3
  go_wp2_with fail
  refine (of_n h4 _).mono ?_
  rintro e w1 ⟨A4, c4, rfl, a4, ⟨x4, rfl⟩⟩
  replace a4 := Lib.hid a4
  go_wp2_with fail
  refine (asInt_n g4 h5 _ (a4.out.plus (by repeat' (first | exact Plus.refl _ | refine Plus.alloc ?_ _ | refine Plus.plus ?_ _ | refine Plus.drew ?_ | refine Plus.drewN ?_ _)))).mono ?_
  rintro e w1 ⟨A5, c5, rfl, a5, ⟨x5, rfl⟩⟩
  replace a5 := Lib.hid a5
  go_wp2_with fail
  refine (parse_n h6 _).mono ?_
  rintro e w1 ⟨A6, c6, rfl, a6, ⟨x6, rfl⟩⟩
  replace a6 := Lib.hid a6
  go_wp2_with fail
  refine (of_n h7 _).mono ?_
  rintro e w1 ⟨A7, c7, rfl, a7, ⟨x7, rfl⟩⟩
  replace a7 := Lib.hid a7
  go_wp2_with fail
  refine (of_n h8 _).mono ?_
  rintro e w1 ⟨A8, c8, rfl, a8, ⟨x8, rfl⟩⟩
  replace a8 := Lib.hid a8
  go_wp2_with fail
  refine (div_n g7 g8 h9 _ (a7.out.plus (by repeat' (first | exact Plus.refl _ | refine Plus.alloc ?_ _ | refine Plus.plus ?_ _ | refine Plus.drew ?_ | refine Plus.drewN ?_ _))) (a8.out.plus (by repeat' (first | exact Plus.refl _ | refine Plus.alloc ?_ _ | refine Plus.plus ?_ _ | refine Plus.drew ?_ | refine Plus.drewN ?_ _)))).mono ?_
  rintro e w1 ⟨A9, c9, rfl, a9, ⟨x9, rfl⟩⟩
  replace a9 := Lib.hid a9
  go_wp2_with fail
  refine (text_n g3 t3 _ (a3.out.plus (by repeat' (first | exact Plus.refl _ | refine Plus.alloc ?_ _ | refine Plus.plus ?_ _ | refine Plus.drew ?_ | refine Plus.drewN ?_ _)))).mono ?_
  rintro e w1 ⟨rfl, ⟨y1, rfl⟩⟩
  go_wp2_with fail
  refine (text_n g5 t5 _ (a5.out.plus (by repeat' (first | exact Plus.refl _ | refine Plus.alloc ?_ _ | refine Plus.plus ?_ _ | refine Plus.drew ?_ | refine Plus.drewN ?_ _)))).mono ?_
  rintro e w1 ⟨rfl, ⟨y2, rfl⟩⟩
  go_wp2_with fail
  refine (fromWord_n h0 _).mono ?_
  rintro e w1 ⟨A0, c0, rfl, a0, ⟨x0, rfl⟩⟩
  replace a0 := Lib.hid a0
  go_wp2_with fail
  refine (text_n g0 t0 _ (a0.out.plus (by repeat' (first | exact Plus.refl _ | refine Plus.alloc ?_ _ | refine Plus.plus ?_ _ | refine Plus.drew ?_ | refine Plus.drewN ?_ _)))).mono ?_
  rintro e w1 ⟨rfl, ⟨y3, rfl⟩⟩
  go_wp2_with fail
  refine (may_n m3 _ (a3.out.plus (by repeat' (first | exact Plus.refl _ | refine Plus.alloc ?_ _ | refine Plus.plus ?_ _ | refine Plus.drew ?_ | refine Plus.drewN ?_ _)))).mono ?_
  rintro e w1 ⟨rfl, ⟨y4, rfl⟩⟩
  go_wp2_with fail
  go_ret
  exact ⟨rfl, by repeat' (first | exact Plus.refl _ | refine Plus.alloc ?_ _ | refine Plus.plus ?_ _ | refine Plus.drew ?_ | refine Plus.drewN ?_ _)⟩

theorem first_c (w : World) : Calls Try.prog 14 #[] w fun e w' => e = .returned (.bool true) ∧ Plus w w' := by
  have n1 := Nm.mk' (n := -7) (by decide)
  have n2 := Nm.mk' (n := 2) (by decide)
  have n3 := Nm.mk' (n := -3) (by decide)
  have n4 := Nm.mk' (n := 200) (by decide)
  have n5 := Nm.mk' (n := -56) (by decide)
  have n6 := Nm.mk' (n := 0) (by decide)
  have n7 := Nm.mk' (n := 1) (by decide)
  have n0 := Nm.mk' (n := -1) (by decide)
  have d3 : dec 3 = [51] := dec_small (by decide)
  have d1 : dec 1 = [49] := dec_small (by decide)
  have d56 : dec 56 = [53, 54] := by rw [dec_big (by decide), show 56 / 10 = 5 from rfl, dec_small (by decide)]; rfl
  refine first_h _ _ _ _ _ _ _ _ _ _ _ _ _ _ _ _ _ _ _ _ (Lib.hid ⟨n1, rfl, by decide, by decide⟩) (Lib.hid ⟨n2, rfl, by decide, by decide⟩) (Lib.hid n1.val) (Lib.hid n2.val) (Lib.hid ⟨n3, by decide, by decide⟩) (Lib.hid n3.val)
    (Lib.hid ⟨n4, rfl, by decide, by decide⟩) (Lib.hid n4.val) (Lib.hid ⟨n5, .inl ⟨by decide, by decide, by decide, rfl⟩⟩) (Lib.hid n5.val) (Lib.hid ⟨n6, by decide, by decide, by decide⟩)
    (Lib.hid ⟨n7, rfl, by decide, by decide⟩) (Lib.hid n7.val) (Lib.hid ⟨n6, rfl, by decide, by decide⟩) (Lib.hid n6.val) (Lib.hid ⟨n6, by decide, by decide⟩) (Lib.hid ⟨n0, 18446744073709551615, rfl, by rw [BB]; decide, by decide⟩) (Lib.hid n0.val)
    (Lib.hid ?_) (Lib.hid ?_) (Lib.hid ?_) (Lib.hid (may_dig (by decide))) w
  · show (ByteArray.mk (45 :: dec 3).toArray) = _
    rw [d3]
  · show (ByteArray.mk (45 :: dec 56).toArray) = _
    rw [d56]
  · show (ByteArray.mk (45 :: dec 1).toArray) = _
    rw [d1]
end Go.Proofs.Ythaokkmbghgopaa
