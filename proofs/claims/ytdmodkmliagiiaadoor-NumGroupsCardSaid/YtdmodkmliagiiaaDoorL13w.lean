/- The walk of NumGroups. -/
import Derived.Test.YtdmodkmliagiiaaDoorV
import Derived.Test.YtdmodkmliagiiaaDoorQ3
import Derived.Test.YtdmodkmliagiiaaDoorM3
namespace Go.Proofs.YtdmodkmliagiiaaDoor
open Go.RowKit

theorem mulS_isV {p q r s : Int} : IsV (mulS p q r s).k (mulS p q r s).n := by
  unfold mulS
  split
  · unfold IsV; simp
  · split
    · unfold infK; split <;> (unfold IsV; simp)
    · split
      · unfold zeroK; split <;> (unfold IsV; simp)
      · exact ofS_isV _
theorem same_of {a b : Ans} (h : a.k = b.k ∧ a.n = b.n) : sameR a.k a.n b.k b.n = true := by
  unfold sameR
  rw [h.1, h.2]
  simp
theorem add_group (ak an bk bn ck cn : Int) (x y p q : Ans) (hx : addR ak an bk bn = x) (hy : addR bk bn ck cn = y) (hp : addR x.k x.n ck cn = p) (hq : addR ak an y.k y.n = q)
    (ox : x.ok = true) (oy : y.ok = true) (op : p.ok = true) (oq : q.ok = true) : sameR p.k p.n q.k q.n = true := by
  have vx : IsV x.k x.n := by rw [← hx]; exact addR_isV _ _ _ _
  have vy : IsV y.k y.n := by rw [← hy]; exact addR_isV _ _ _ _
  unfold addR at hx hy hp hq
  rw [vk_of vx, vn_of vx] at hp
  rw [vk_of vy, vn_of vy] at hq
  exact same_of (addS_assoc (isV_v ak an) (isV_v bk bn) (isV_v ck cn) x y p q hx hy hp hq ox oy op oq)
theorem mul_group (ak an bk bn ck cn : Int) (x y p q : Ans) (hx : mulR ak an bk bn = x) (hy : mulR bk bn ck cn = y) (hp : mulR x.k x.n ck cn = p) (hq : mulR ak an y.k y.n = q)
    (ox : x.ok = true) (oy : y.ok = true) (op : p.ok = true) (oq : q.ok = true) : sameR p.k p.n q.k q.n = true := by
  have vx : IsV x.k x.n := by rw [← hx]; exact mulS_isV
  have vy : IsV y.k y.n := by rw [← hy]; exact mulS_isV
  unfold mulR at hx hy hp hq
  rw [vk_of vx, vn_of vx] at hp
  rw [vk_of vy, vn_of vy] at hq
  exact same_of (mulS_assoc (isV_v ak an) (isV_v bk bn) (isV_v ck cn) x y p q hx hy hp hq ox oy op oq)
set_option maxRecDepth 100000 in
set_option maxHeartbeats 8000000 in
theorem groups_h (ak an bk bn ck cn xk xn yk yn pk pn qk qn kk kn lk ln mk mn ok on : Int) (xo yo po qo ko lo mo oo : Bool)
    (hx : Hid (addR ak an bk bn = ⟨xk, xn, xo⟩)) (hy : Hid (addR bk bn ck cn = ⟨yk, yn, yo⟩)) (hp : Hid (addR xk xn ck cn = ⟨pk, pn, po⟩)) (hq : Hid (addR ak an yk yn = ⟨qk, qn, qo⟩))
    (hk : Hid (mulR ak an bk bn = ⟨kk, kn, ko⟩)) (hl : Hid (mulR bk bn ck cn = ⟨lk, ln, lo⟩)) (hm : Hid (mulR kk kn ck cn = ⟨mk, mn, mo⟩)) (ho : Hid (mulR ak an lk ln = ⟨ok, on, oo⟩))
    (hs1 : Hid (xo = true → yo = true → po = true → qo = true → sameR pk pn qk qn = true)) (hs2 : Hid (ko = true → lo = true → mo = true → oo = true → sameR mk mn ok on = true)) (w : World) :
    Calls Tryd.prog 13 #[.agg #[.int .i64 ak, .int .i64 an], .agg #[.int .i64 bk, .int .i64 bn], .agg #[.int .i64 ck, .int .i64 cn]] w fun e w' => e = .returned (.bool true) ∧ Plus w w' := by
  go_enter Tryd.func13, Tryd.ntmps13
  go_upto_region 7 with (first | (go_at_call 15; ((with_reducible refine (first_c _).mono ?_); rintro e w1 ⟨rfl, ⟨x1, rfl⟩⟩)) | (go_at_call 16; ((with_reducible refine (add_v hx _).mono ?_); rintro e w1 ⟨rfl, ⟨x1, rfl⟩⟩)) | (go_at_call 16; ((with_reducible refine (add_v hy _).mono ?_); rintro e w1 ⟨rfl, ⟨x1, rfl⟩⟩)) | (go_at_call 16; ((with_reducible refine (add_v hp _).mono ?_); rintro e w1 ⟨rfl, ⟨x1, rfl⟩⟩)) | (go_at_call 16; ((with_reducible refine (add_v hq _).mono ?_); rintro e w1 ⟨rfl, ⟨x1, rfl⟩⟩)))
  go_cut [8, 10, 12, 14, 64] (fun _ _ _ _ s wx => s = .bool false ∧ Plus w wx ∧ Box wx w.heap.size ak an ∧ Box wx (w.heap.size + 1) bk bn ∧ Box wx (w.heap.size + 1 + 1) ck cn)
  case first =>
    go_wp2_with (go_at_call 36; ((with_reducible refine (same_v (Lib.hid (hs1.out (by assumption) (by assumption) (by assumption) (by assumption))) _).mono ?_); rintro e w1 ⟨rfl, ⟨x1, rfl⟩⟩))
    all_goals (go_meet; refine ⟨rfl, ?_, ?_, ?_, ?_⟩)
    all_goals first | ((repeat' (first | exact Plus.refl _ | refine Plus.alloc ?_ _ | refine Plus.plus ?_ _ | refine Plus.drew ?_ | refine Plus.drewN ?_ _)); done) | ((repeat' (first | (refine Box.new' ?_; (simp [go_sem]; done)) | refine Box.alloc ?_ _ | refine Box.grow ?_ _ | refine Box.drew ?_)); done) | skip
    all_goals go_show
  case rest =>
    obtain ⟨rfl, hPw, hA, hB, hC⟩ := hcut
    clear hx hy hp hq hs1
    obtain ⟨a0, a1, a2, a3, a4⟩ := hA
    obtain ⟨b0, b1, b2, b3, b4⟩ := hB
    obtain ⟨c0, c1, c2, c3, c4⟩ := hC
    haveI : Old w.heap.size wc := ⟨a4⟩
    haveI : Old (w.heap.size + 1) wc := ⟨b4⟩
    haveI : Old (w.heap.size + 1 + 1) wc := ⟨c4⟩
    clear a4 b4 c4
    go_wp2_with (first | (go_at_call 15; ((with_reducible refine (first_c _).mono ?_); rintro e w1 ⟨rfl, ⟨x1, rfl⟩⟩)) | (go_at_call 20; ((with_reducible refine (mul_v hk _).mono ?_); rintro e w1 ⟨rfl, ⟨x1, rfl⟩⟩)) | (go_at_call 20; ((with_reducible refine (mul_v hl _).mono ?_); rintro e w1 ⟨rfl, ⟨x1, rfl⟩⟩)) | (go_at_call 20; ((with_reducible refine (mul_v hm _).mono ?_); rintro e w1 ⟨rfl, ⟨x1, rfl⟩⟩)) | (go_at_call 20; ((with_reducible refine (mul_v ho _).mono ?_); rintro e w1 ⟨rfl, ⟨x1, rfl⟩⟩)) | (go_at_call 36; ((with_reducible refine (same_v (Lib.hid (hs2.out (by assumption) (by assumption) (by assumption) (by assumption))) _).mono ?_); rintro e w1 ⟨rfl, ⟨x1, rfl⟩⟩)))
    all_goals go_returns
    all_goals refine ⟨?_, ?_⟩
    all_goals first | (simp; done) | ((repeat' (first | exact hPw | refine Plus.alloc ?_ _ | refine Plus.plus ?_ _ | refine Plus.drew ?_ | refine Plus.drewN ?_ _)); done) | (simp [*]; done) | skip
    all_goals go_show

theorem groups_w (ak an bk bn ck cn : Int) (w : World) : Calls Tryd.prog 13 #[.agg #[.int .i64 ak, .int .i64 an], .agg #[.int .i64 bk, .int .i64 bn], .agg #[.int .i64 ck, .int .i64 cn]] w fun e w' => e = .returned (.bool true) ∧ Plus w w' := by
  obtain ⟨x, hx⟩ : ∃ x, addR ak an bk bn = x := ⟨_, rfl⟩
  obtain ⟨y, hy⟩ : ∃ y, addR bk bn ck cn = y := ⟨_, rfl⟩
  obtain ⟨p, hp⟩ : ∃ p, addR x.k x.n ck cn = p := ⟨_, rfl⟩
  obtain ⟨q, hq⟩ : ∃ q, addR ak an y.k y.n = q := ⟨_, rfl⟩
  obtain ⟨k, hk⟩ : ∃ k, mulR ak an bk bn = k := ⟨_, rfl⟩
  obtain ⟨l, hl⟩ : ∃ l, mulR bk bn ck cn = l := ⟨_, rfl⟩
  obtain ⟨m, hm⟩ : ∃ m, mulR k.k k.n ck cn = m := ⟨_, rfl⟩
  obtain ⟨o, ho⟩ : ∃ o, mulR ak an l.k l.n = o := ⟨_, rfl⟩
  exact groups_h ak an bk bn ck cn x.k x.n y.k y.n p.k p.n q.k q.n k.k k.n l.k l.n m.k m.n o.k o.n x.ok y.ok p.ok q.ok k.ok l.ok m.ok o.ok hx hy hp hq hk hl hm ho
    (add_group ak an bk bn ck cn x y p q hx hy hp hq) (mul_group ak an bk bn ck cn k l m o hk hl hm ho) w
end Go.Proofs.YtdmodkmliagiiaaDoor
