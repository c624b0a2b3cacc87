/- The walk of NumSigns. -/
import Derived.Test.YtdmodkmliagiiaaDoorV
import Derived.Test.YtdmodkmliagiiaaDoorQ3
import Derived.Test.YtdmodkmliagiiaaDoorM4
namespace Go.Proofs.YtdmodkmliagiiaaDoor
open Go.RowKit

theorem cells_S {W w' : World} {b c : Nat} {k n l m : Int} (hb : Box W b k n) (hc : Box W c l m) (h : Plus W w') : w'.cell? ⟨b, 0, none⟩ = some (.int .i64 k) ∧ w'.cell? ⟨b, 1, none⟩ = some (.int .i64 n) ∧ w'.cell? ⟨c, 0, none⟩ = some (.int .i64 l) ∧ w'.cell? ⟨c, 1, none⟩ = some (.int .i64 m) :=
  ⟨(hb.plus h).1, (hb.plus h).2.1, (hc.plus h).1, (hc.plus h).2.1⟩

theorem mulS_isV' {p q r s : Int} : IsV (mulS p q r s).k (mulS p q r s).n := by
  unfold mulS
  split
  · unfold IsV; simp
  · split
    · unfold infK; split <;> (unfold IsV; simp)
    · split
      · unfold zeroK; split <;> (unfold IsV; simp)
      · exact ofS_isV _
set_option maxRecDepth 100000 in
set_option maxHeartbeats 16000000 in
theorem signs_h (ak an bk bn nak nan xk xn pk pn qk qn sk sn nbk nbn tk tn zk zn npk npn nsk nsn : Int) (po so T : Bool) (hna : Hid (negR ak an = ⟨nak, nan⟩)) (hxx : Hid (negR nak nan = ⟨xk, xn⟩)) (hp : Hid (mulR ak an bk bn = ⟨pk, pn, po⟩)) (hq : Hid (mulR nak nan bk bn = ⟨qk, qn, po⟩)) (hs : Hid (addR ak an bk bn = ⟨sk, sn, so⟩)) (hnb : Hid (negR bk bn = ⟨nbk, nbn⟩)) (ht : Hid (addR nak nan nbk nbn = ⟨tk, tn, so⟩)) (hz : Hid (subR 0 0 ak an = ⟨zk, zn, true⟩)) (h1 : Hid (sameR xk xn ak an = true)) (hnp : Hid (negR pk pn = ⟨npk, npn⟩)) (h2 : Hid (sameR qk qn npk npn = true)) (hns : Hid (negR sk sn = ⟨nsk, nsn⟩)) (h3 : Hid (sameR tk tn nsk nsn = T)) (h4 : Hid (T = false → equalR sk sn 0 0 = true)) (h5 : Hid (equalR zk zn nak nan = (zk != 2))) (w : World) :
    Calls Tryd.prog 10 #[.agg #[.int .i64 ak, .int .i64 an], .agg #[.int .i64 bk, .int .i64 bn]] w fun e w' => e = .returned (.bool true) ∧ Plus w w' := by
  have gA : Box ((w.alloc (.cells #[.int .i64 ak, .int .i64 an] 23)).alloc (.cells #[.int .i64 bk, .int .i64 bn] 23)) w.heap.size ak an := (Box.new w ak an 23).alloc _
  have gB : Box ((w.alloc (.cells #[.int .i64 ak, .int .i64 an] 23)).alloc (.cells #[.int .i64 bk, .int .i64 bn] 23)) (w.heap.size + 1) bk bn := Box.new' (by simp [go_sem])
  go_enter Tryd.func10, Tryd.ntmps10
  go_upto_region 5 with (first | (go_at_call 15; ((with_reducible refine (first_c _).mono ?_); rintro e w1 ⟨rfl, ⟨x1, rfl⟩⟩)) | (go_at_call 30; ((with_reducible refine (neg_v hna _).mono ?_); rintro e w1 ⟨rfl, ⟨x1, rfl⟩⟩)) | (go_at_call 30; ((with_reducible refine (neg_v hxx _).mono ?_); rintro e w1 ⟨rfl, ⟨x1, rfl⟩⟩)) | (go_at_call 20; ((with_reducible refine (mul_v hp _).mono ?_); rintro e w1 ⟨rfl, ⟨x1, rfl⟩⟩)))
  go_cut [5, 6, 8, 9] (fun s5 s6 s8 s9 wx => ∃ b5 b6 b8, s5 = .pointer (some ⟨b5, 0, none⟩) ∧ s6 = .pointer (some ⟨b6, 0, none⟩) ∧ s8 = .pointer (some ⟨b8, 0, none⟩) ∧ s9 = .bool po ∧ Plus w wx ∧ Box wx w.heap.size ak an ∧ Box wx (w.heap.size + 1) bk bn ∧ Box wx b5 xk xn ∧ Box wx b6 pk pn ∧ Box wx b8 qk qn)
  case first =>
    go_region_held3 (fun w' => w'.cell? ⟨w.heap.size, 0, none⟩ = some (.int .i64 ak) ∧ w'.cell? ⟨w.heap.size, 1, none⟩ = some (.int .i64 an) ∧ w'.cell? ⟨w.heap.size + 1, 0, none⟩ = some (.int .i64 bk) ∧ w'.cell? ⟨w.heap.size + 1, 1, none⟩ = some (.int .i64 bn)) (exact cells_S gA gB (by repeat' (first | exact Plus.refl _ | refine Plus.alloc ?_ _ | refine Plus.plus ?_ _ | refine Plus.drew ?_ | refine Plus.drewN ?_ _))) (first | (go_at_call 30; ((with_reducible refine (neg_v hna _).mono ?_); rintro e w1 ⟨rfl, ⟨x1, rfl⟩⟩)) | (go_at_call 20; ((with_reducible refine (mul_v hq _).mono ?_); rintro e w1 ⟨rfl, ⟨x1, rfl⟩⟩)))
    all_goals (go_wp2_with fail; go_meet; refine ⟨_, _, _, rfl, rfl, rfl, rfl, ?_, ?_, ?_, ?_, ?_, ?_⟩)
    all_goals first | ((repeat' (first | exact Plus.refl _ | refine Plus.alloc ?_ _ | refine Plus.plus ?_ _ | refine Plus.drew ?_ | refine Plus.drewN ?_ _)); done) | ((repeat' (first | (refine Box.new' ?_; (simp [go_sem]; done)) | refine Box.alloc ?_ _ | refine Box.grow ?_ _ | refine Box.drew ?_)); done)
  case rest =>
    obtain ⟨b5, b6, b8, rfl, rfl, rfl, rfl, hPw, hA, hB, hX, hP, hQ⟩ := hcut
    clear gA gB
    obtain ⟨a0, a1, a2, a3, a4⟩ := id hA
    obtain ⟨c0, c1, c2, c3, c4⟩ := id hB
    haveI : Old w.heap.size wc := ⟨a4⟩
    haveI : Old (w.heap.size + 1) wc := ⟨c4⟩
    clear a4 c4
    go_upto_region 7 with (first | (go_at_call 16; ((with_reducible refine (add_v hs _).mono ?_); rintro e w1 ⟨rfl, ⟨x1, rfl⟩⟩)))
    clear a0 a1 a2 a3 c0 c1 c2 c3
    go_cut [10, 12, 13] (fun s10 s12 s13 wx => ∃ b10 b12, s10 = .pointer (some ⟨b10, 0, none⟩) ∧ s12 = .pointer (some ⟨b12, 0, none⟩) ∧ s13 = .bool so ∧ Plus w wx ∧ Box wx w.heap.size ak an ∧ Box wx (w.heap.size + 1) bk bn ∧ Box wx b5 xk xn ∧ Box wx b6 pk pn ∧ Box wx b8 qk qn ∧ Box wx b10 sk sn ∧ Box wx b12 tk tn)
    case first =>
      go_region_held3 (fun w' => w'.cell? ⟨w.heap.size, 0, none⟩ = some (.int .i64 ak) ∧ w'.cell? ⟨w.heap.size, 1, none⟩ = some (.int .i64 an) ∧ w'.cell? ⟨w.heap.size + 1, 0, none⟩ = some (.int .i64 bk) ∧ w'.cell? ⟨w.heap.size + 1, 1, none⟩ = some (.int .i64 bn)) (exact cells_S hA hB (by repeat' (first | exact Plus.refl _ | refine Plus.alloc ?_ _ | refine Plus.plus ?_ _ | refine Plus.drew ?_ | refine Plus.drewN ?_ _))) (first | (go_at_call 30; ((with_reducible refine (neg_v hna _).mono ?_); rintro e w1 ⟨rfl, ⟨x1, rfl⟩⟩)) | (go_at_call 30; ((with_reducible refine (neg_v hnb _).mono ?_); rintro e w1 ⟨rfl, ⟨x1, rfl⟩⟩)) | (go_at_call 16; ((with_reducible refine (add_v ht _).mono ?_); rintro e w1 ⟨rfl, ⟨x1, rfl⟩⟩)))
      all_goals (go_wp2_with fail; go_meet; refine ⟨_, _, rfl, rfl, rfl, ?_, ?_, ?_, ?_, ?_, ?_, ?_, ?_⟩)
      all_goals first | ((repeat' (first | exact Plus.refl _ | exact hPw | refine Plus.alloc ?_ _ | refine Plus.plus ?_ _ | refine Plus.drew ?_ | refine Plus.drewN ?_ _)); done) | ((repeat' (first | exact hA | exact hB | exact hX | exact hP | exact hQ | (refine Box.new' ?_; (simp [go_sem]; done)) | refine Box.alloc ?_ _ | refine Box.grow ?_ _ | refine Box.drew ?_)); done)
    case rest =>
      clear hPw hA hB hX hP hQ
      obtain ⟨b10, b12, rfl, rfl, rfl, hPw, hA, hB, hX, hP, hQ, hS, hT⟩ := hcut
      go_upto_region 8 with fail
      go_cut [14, 15] (fun s14 s15 wx => ∃ b14, s14 = .pointer (some ⟨b14, 0, none⟩) ∧ s15 = .bool true ∧ Plus w wx ∧ Box wx w.heap.size ak an ∧ Box wx (w.heap.size + 1) bk bn ∧ Box wx b5 xk xn ∧ Box wx b6 pk pn ∧ Box wx b8 qk qn ∧ Box wx b10 sk sn ∧ Box wx b12 tk tn ∧ Box wx b14 zk zn)
      case first =>
        go_region_held3 (fun w' => w'.cell? ⟨w.heap.size, 0, none⟩ = some (.int .i64 ak) ∧ w'.cell? ⟨w.heap.size, 1, none⟩ = some (.int .i64 an) ∧ w'.cell? ⟨w.heap.size + 1, 0, none⟩ = some (.int .i64 bk) ∧ w'.cell? ⟨w.heap.size + 1, 1, none⟩ = some (.int .i64 bn)) (exact cells_S hA hB (by repeat' (first | exact Plus.refl _ | refine Plus.alloc ?_ _ | refine Plus.plus ?_ _ | refine Plus.drew ?_ | refine Plus.drewN ?_ _))) (first | (go_at_call 54; ((with_reducible refine (w_c _ _).mono ?_); rintro e w1 ⟨rfl, ⟨x1, rfl⟩⟩)) | (go_at_call 18; ((with_reducible refine (sub_v hz _).mono ?_); rintro e w1 ⟨rfl, ⟨x1, rfl⟩⟩)))
        all_goals (go_wp2_with fail; go_meet; refine ⟨_, rfl, rfl, ?_, ?_, ?_, ?_, ?_, ?_, ?_, ?_, ?_⟩)
        all_goals first | ((repeat' (first | exact Plus.refl _ | exact hPw | refine Plus.alloc ?_ _ | refine Plus.plus ?_ _ | refine Plus.drew ?_ | refine Plus.drewN ?_ _)); done) | ((repeat' (first | exact hA | exact hB | exact hX | exact hP | exact hQ | exact hS | exact hT | (refine Box.new' ?_; (simp [go_sem]; done)) | refine Box.alloc ?_ _ | refine Box.grow ?_ _ | refine Box.drew ?_)); done)
      case rest =>
      clear hPw hA hB hX hP hQ hS hT
      obtain ⟨b14, rfl, rfl, hPw, hA, hB, hX, hP, hQ, hS, hT, hZ⟩ := hcut
      obtain ⟨a0, a1, a2, a3, a4⟩ := hA
      haveI : Old w.heap.size wc := ⟨a4⟩
      clear a2 a3 a4
      obtain ⟨c0, c1, c2, c3, c4⟩ := hB
      haveI : Old (w.heap.size + 1) wc := ⟨c4⟩
      clear c2 c3 c4
      obtain ⟨d0, d1, d2, d3, d4⟩ := hX
      haveI : Old b5 wc := ⟨d4⟩
      clear d2 d3 d4
      obtain ⟨e0, e1, e2, e3, e4⟩ := hP
      haveI : Old b6 wc := ⟨e4⟩
      clear e2 e3 e4
      obtain ⟨f0, f1, f2, f3, f4⟩ := hQ
      haveI : Old b8 wc := ⟨f4⟩
      clear f2 f3 f4
      obtain ⟨g0, g1, g2, g3, g4⟩ := hS
      haveI : Old b10 wc := ⟨g4⟩
      clear g2 g3 g4
      obtain ⟨i0, i1, i2, i3, i4⟩ := hT
      haveI : Old b12 wc := ⟨i4⟩
      clear i2 i3 i4
      obtain ⟨j0, j1, j2, j3, j4⟩ := hZ
      haveI : Old b14 wc := ⟨j4⟩
      clear j2 j3 j4
      cases T <;> by_cases hz2 : zk = 2
      · subst hz2
        replace h4 : Hid (equalR sk sn 0 0 = true) := h4.out rfl
        go_wp2_with fail
        refine wp_region_plus (by kernel_rfl) (by kernel_rfl) ?_
        repeat (go_big_quiet_step ((first | (go_at_call 15; with_reducible exact calls_plus (first_c _)) | (go_at_call 36; with_reducible exact calls_plus (same_v h1 _)) | (go_at_call 30; with_reducible exact calls_plus (neg_v hnp _)) | (go_at_call 36; with_reducible exact calls_plus (same_v h2 _)) | (go_at_call 30; with_reducible exact calls_plus (neg_v hns _)) | (go_at_call 36; with_reducible exact calls_plus (same_v h3 _)) | (go_at_call 54; with_reducible exact calls_plus (w_c _ _)) | (go_at_call 34; with_reducible exact calls_plus (equal_v h4 _)) | (go_at_call 30; with_reducible exact calls_plus (neg_v hna _)) | (go_at_call 34; with_reducible exact calls_plus (equal_v h5 _)))))
        refine wpQuiet_nil ?_
        intro _ hw'
        obtain ⟨x9, rfl⟩ := hw'
        go_wp2_with fail
        go_returns
        refine ⟨by simp, ?_⟩
        repeat' (first | exact Plus.refl _ | exact hPw | refine Plus.alloc ?_ _ | refine Plus.plus ?_ _ | refine Plus.drew ?_ | refine Plus.drewN ?_ _)
      · have hzn : (zk != 2) = true := by simpa using hz2
        rw [hzn] at h5
        replace h4 : Hid (equalR sk sn 0 0 = true) := h4.out rfl
        go_wp2_with fail
        refine wp_region_plus (by kernel_rfl) (by kernel_rfl) ?_
        repeat (go_big_quiet_step ((first | (go_at_call 15; with_reducible exact calls_plus (first_c _)) | (go_at_call 36; with_reducible exact calls_plus (same_v h1 _)) | (go_at_call 30; with_reducible exact calls_plus (neg_v hnp _)) | (go_at_call 36; with_reducible exact calls_plus (same_v h2 _)) | (go_at_call 30; with_reducible exact calls_plus (neg_v hns _)) | (go_at_call 36; with_reducible exact calls_plus (same_v h3 _)) | (go_at_call 54; with_reducible exact calls_plus (w_c _ _)) | (go_at_call 34; with_reducible exact calls_plus (equal_v h4 _)) | (go_at_call 30; with_reducible exact calls_plus (neg_v hna _)) | (go_at_call 34; with_reducible exact calls_plus (equal_v h5 _)))))
        refine wpQuiet_nil ?_
        intro _ hw'
        obtain ⟨x9, rfl⟩ := hw'
        go_wp2_with fail
        go_returns
        refine ⟨by simp, ?_⟩
        repeat' (first | exact Plus.refl _ | exact hPw | refine Plus.alloc ?_ _ | refine Plus.plus ?_ _ | refine Plus.drew ?_ | refine Plus.drewN ?_ _)
      · subst hz2
        go_wp2_with fail
        refine wp_region_plus (by kernel_rfl) (by kernel_rfl) ?_
        repeat (go_big_quiet_step ((first | (go_at_call 15; with_reducible exact calls_plus (first_c _)) | (go_at_call 36; with_reducible exact calls_plus (same_v h1 _)) | (go_at_call 30; with_reducible exact calls_plus (neg_v hnp _)) | (go_at_call 36; with_reducible exact calls_plus (same_v h2 _)) | (go_at_call 30; with_reducible exact calls_plus (neg_v hns _)) | (go_at_call 36; with_reducible exact calls_plus (same_v h3 _)) | (go_at_call 54; with_reducible exact calls_plus (w_c _ _)) | (go_at_call 34; with_reducible exact calls_plus (equal_v h4 _)) | (go_at_call 30; with_reducible exact calls_plus (neg_v hna _)) | (go_at_call 34; with_reducible exact calls_plus (equal_v h5 _)))))
        refine wpQuiet_nil ?_
        intro _ hw'
        obtain ⟨x9, rfl⟩ := hw'
        go_wp2_with fail
        go_returns
        refine ⟨by simp, ?_⟩
        repeat' (first | exact Plus.refl _ | exact hPw | refine Plus.alloc ?_ _ | refine Plus.plus ?_ _ | refine Plus.drew ?_ | refine Plus.drewN ?_ _)
      · have hzn : (zk != 2) = true := by simpa using hz2
        rw [hzn] at h5
        go_wp2_with fail
        refine wp_region_plus (by kernel_rfl) (by kernel_rfl) ?_
        repeat (go_big_quiet_step ((first | (go_at_call 15; with_reducible exact calls_plus (first_c _)) | (go_at_call 36; with_reducible exact calls_plus (same_v h1 _)) | (go_at_call 30; with_reducible exact calls_plus (neg_v hnp _)) | (go_at_call 36; with_reducible exact calls_plus (same_v h2 _)) | (go_at_call 30; with_reducible exact calls_plus (neg_v hns _)) | (go_at_call 36; with_reducible exact calls_plus (same_v h3 _)) | (go_at_call 54; with_reducible exact calls_plus (w_c _ _)) | (go_at_call 34; with_reducible exact calls_plus (equal_v h4 _)) | (go_at_call 30; with_reducible exact calls_plus (neg_v hna _)) | (go_at_call 34; with_reducible exact calls_plus (equal_v h5 _)))))
        refine wpQuiet_nil ?_
        intro _ hw'
        obtain ⟨x9, rfl⟩ := hw'
        go_wp2_with fail
        go_returns
        refine ⟨by simp, ?_⟩
        repeat' (first | exact Plus.refl _ | exact hPw | refine Plus.alloc ?_ _ | refine Plus.plus ?_ _ | refine Plus.drew ?_ | refine Plus.drewN ?_ _)

theorem signs_w (ak an bk bn : Int) (w : World) : Calls Tryd.prog 10 #[.agg #[.int .i64 ak, .int .i64 an], .agg #[.int .i64 bk, .int .i64 bn]] w fun e w' => e = .returned (.bool true) ∧ Plus w w' := by
  have va := isV_v ak an
  have vb := isV_v bk bn
  obtain ⟨p, hp⟩ : ∃ p, mulR ak an bk bn = p := ⟨_, rfl⟩
  obtain ⟨s, hs⟩ : ∃ s, addR ak an bk bn = s := ⟨_, rfl⟩
  have vna : IsV (negR ak an).k (negR ak an).n := negS_isV va
  have vnb : IsV (negR bk bn).k (negR bk bn).n := negS_isV vb
  obtain ⟨q, hq⟩ : ∃ q, mulR (negR ak an).k (negR ak an).n bk bn = q := ⟨_, rfl⟩
  obtain ⟨t, ht⟩ : ∃ t, addR (negR ak an).k (negR ak an).n (negR bk bn).k (negR bk bn).n = t := ⟨_, rfl⟩
  obtain ⟨z, hz⟩ : ∃ z, subR 0 0 ak an = z := ⟨_, rfl⟩
  have vp : IsV p.k p.n := by rw [← hp]; exact mulS_isV'
  have vs : IsV s.k s.n := by rw [← hs]; exact addR_isV _ _ _ _
  have vz : IsV z.k z.n := by rw [← hz]; exact addR_isV _ _ _ _
  have hxx : negR (negR ak an).k (negR ak an).n = ⟨vk ak an, vn ak an⟩ := by
    show negS (vk _ _) (vn _ _) = _
    rw [vk_of vna, vn_of vna]
    exact neg_twice va
  have hq' := hq
  unfold mulR at hp hq
  rw [vk_of vna, vn_of vna] at hq
  have m1 := mul_neg va vb p q hp hq
  have ht' := ht
  have hs' := hs
  unfold addR at hs ht
  rw [vk_of vna, vn_of vna, vk_of vnb, vn_of vnb] at ht
  have m2 := add_neg va vb s t hs ht
  have hz' := hz
  unfold subR addR at hz
  rw [show vk 0 0 = 0 from rfl, show vn 0 0 = 0 from rfl, vk_of vna, vn_of vna] at hz
  have m3 := zero_less vna z hz
  have np : negR p.k p.n = ⟨q.k, q.n⟩ := by
    show negS (vk _ _) (vn _ _) = _
    rw [vk_of vp, vn_of vp]
    exact m1.2
  have e1 : sameR (vk ak an) (vn ak an) ak an = true := by
    unfold sameR
    rw [vk_of va, vn_of va]
    simp
  have e5 : equalR z.k z.n (negR ak an).k (negR ak an).n = (z.k != 2) := by
    unfold equalR
    rw [vk_of vz, vn_of vz, vk_of vna, vn_of vna, m3.2]
    rfl
  have hq2 : mulR (negR ak an).k (negR ak an).n bk bn = ⟨q.k, q.n, p.ok⟩ := by rw [hq', ← m1.1]
  have ht2 : addR (negR ak an).k (negR ak an).n (negR bk bn).k (negR bk bn).n = ⟨t.k, t.n, s.ok⟩ := by rw [ht', ← m2.1]
  have hz2 : subR 0 0 ak an = ⟨z.k, z.n, true⟩ := by rw [hz', ← m3.1]
  have e2 : sameR q.k q.n q.k q.n = true := by simp [sameR]
  obtain ⟨ns, hns⟩ : ∃ ns, negR s.k s.n = ns := ⟨_, rfl⟩
  obtain ⟨T, hT⟩ : ∃ T, sameR t.k t.n ns.k ns.n = T := ⟨_, rfl⟩
  have e4 : T = false → equalR s.k s.n 0 0 = true := fun hf => by
    rcases m2.2 with h | ⟨h0, hk⟩
    · exfalso
      have h' : negR s.k s.n = ⟨t.k, t.n⟩ := by
        show negS (vk _ _) (vn _ _) = _
        rw [vk_of vs, vn_of vs]
        exact h
      rw [← hns, h'] at hT
      rw [hf] at hT
      simp [sameR] at hT
    · unfold equalR
      rw [vk_of vs, vn_of vs, show vk 0 0 = 0 from rfl, show vn 0 0 = 0 from rfl, h0]
      rcases hk with hk | hk <;> rw [hk] <;> rfl
  exact signs_h ak an bk bn (negR ak an).k (negR ak an).n (vk ak an) (vn ak an) p.k p.n q.k q.n s.k s.n (negR bk bn).k (negR bk bn).n t.k t.n z.k z.n q.k q.n ns.k ns.n p.ok s.ok T
    rfl hxx hp hq2 hs' rfl ht2 hz2 e1 np e2 hns hT e4 e5 w
end Go.Proofs.YtdmodkmliagiiaaDoor
