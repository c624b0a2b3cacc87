/- The walk of NumShifts. -/
import Derived.Test.YtdmodkmliagiiaaDoorL11m
import Derived.Test.YtdmodkmliagiiaaDoorQ3
namespace Go.Proofs.YtdmodkmliagiiaaDoor
open Go.RowKit

theorem cell_plusN11 {w w' : World} {a : Addr} {v : Value} (h : w.cell? a = some v) (hp : Plus w w') : w'.cell? a = some v := (World.cell?_of_block (w := w) (hp.below.block _ (World.block_lt_of_cell? _ _ h))).trans h
theorem cells_1 {W w' : World} {b : Nat} {k n : Int} (hb : Box W b k n) (h : Plus W w') : w'.cell? ⟨b, 0, none⟩ = some (.int .i64 k) ∧ w'.cell? ⟨b, 1, none⟩ = some (.int .i64 n) := ⟨(hb.plus h).1, (hb.plus h).2.1⟩
theorem cells_4 {W w' : World} {a b c d : Nat} {ak an bk bn ck cn dk dn : Int} (ha : Box W a ak an) (hb : Box W b bk bn) (hc : Box W c ck cn) (hd : Box W d dk dn) (h : Plus W w') : w'.cell? ⟨a, 0, none⟩ = some (.int .i64 ak) ∧ w'.cell? ⟨a, 1, none⟩ = some (.int .i64 an) ∧ w'.cell? ⟨b, 0, none⟩ = some (.int .i64 bk) ∧ w'.cell? ⟨b, 1, none⟩ = some (.int .i64 bn) ∧ w'.cell? ⟨c, 0, none⟩ = some (.int .i64 ck) ∧ w'.cell? ⟨c, 1, none⟩ = some (.int .i64 cn) ∧ w'.cell? ⟨d, 0, none⟩ = some (.int .i64 dk) ∧ w'.cell? ⟨d, 1, none⟩ = some (.int .i64 dn) :=
  ⟨(ha.plus h).1, (ha.plus h).2.1, (hb.plus h).1, (hb.plus h).2.1, (hc.plus h).1, (hc.plus h).2.1, (hd.plus h).1, (hd.plus h).2.1⟩
set_option maxRecDepth 100000 in
set_option maxHeartbeats 16000000 in
theorem shifts_h (ak an s s2 x p up pk pn dn dn1 dp dq un u : Int) (h0 : 0 ≤ s) (h1 : s ≤ 20) (hx : Hid (i32R ak an = x)) (hup : Hid (bitR 4 ak an 0 s = ⟨0, up⟩)) (hp : Hid (mulR 0 x 0 p = ⟨pk, pn, true⟩)) (hpx : Hid (i32R pk pn = up)) (hdn : Hid (bitR 5 ak an 0 s = ⟨0, dn⟩)) (hun : Hid (bitR 6 ak an 0 s = ⟨0, un⟩)) (hu : Hid (wordR ak an = u)) (hup2 : Hid (bitR 4 ak an 0 s2 = ⟨0, up⟩)) (hdn2 : Hid (bitR 5 ak an 0 s2 = ⟨0, dn⟩)) (e1 : Hid (sameR 0 up 0 up = true)) (e2 : Hid (sameR 0 dn 0 dn = true)) (hpw : Hid (wrap64 (2 ^ s.toNat) = p)) (hpz : Hid (p ≠ 0)) (k1 : Hid (IntKind.i64.wrap (dn + 1) = dn1)) (k2 : Hid (IntKind.i64.wrap (dn * p) = dp)) (k3 : Hid (IntKind.i64.wrap (dn1 * p) = dq)) (k4 : Hid (dp ≤ x)) (k5 : Hid (x < dq)) (k6 : Hid (IntKind.i64.wrap (s + 32) = s2)) (k7 : Hid (IntKind.i64.wrap (u.tdiv p) = un)) (w : World) :
    Calls Tryd.prog 11 #[.agg #[.int .i64 ak, .int .i64 an], .int .i64 s] w fun e w' => e = .returned (.bool true) ∧ Plus w w' := by
  have gA : Box (w.alloc (.cells #[.int .i64 ak, .int .i64 an] 23)) w.heap.size ak an := Box.new w ak an 23
  go_enter Tryd.func11, Tryd.ntmps11
  go_upto_region 6 with (first | (go_at_call 15; ((with_reducible refine (first_c _).mono ?_); rintro e w1 ⟨rfl, ⟨x1, rfl⟩⟩)) | (go_at_call 40; ((with_reducible refine (i32_v hx _).mono ?_); rintro e w1 ⟨rfl, ⟨x1, rfl⟩⟩)))
  go_cut [6] (fun s6 wx => ∃ b6, s6 = .pointer (some ⟨b6, 0, none⟩) ∧ Plus w wx ∧ Box wx w.heap.size ak an ∧ Box wx b6 0 up)
  case first =>
    go_region_held3 (fun w' => w'.cell? ⟨w.heap.size, 0, none⟩ = some (.int .i64 ak) ∧ w'.cell? ⟨w.heap.size, 1, none⟩ = some (.int .i64 an)) (exact cells_1 gA (by repeat' (first | exact Plus.refl _ | refine Plus.alloc ?_ _ | refine Plus.plus ?_ _ | refine Plus.drew ?_ | refine Plus.drewN ?_ _))) (first | (go_at_call 54; ((with_reducible refine (w_c _ _).mono ?_); rintro e w1 ⟨rfl, ⟨x1, rfl⟩⟩)) | (go_at_call 46; ((with_reducible refine (bit_v hup _).mono ?_); rintro e w1 ⟨rfl, ⟨x1, rfl⟩⟩)))
    all_goals (go_wp2_with fail; go_meet; refine ⟨_, rfl, ?_, ?_, ?_⟩)
    all_goals first | ((repeat' (first | exact Plus.refl _ | refine Plus.alloc ?_ _ | refine Plus.plus ?_ _ | refine Plus.drew ?_ | refine Plus.drewN ?_ _)); done) | ((repeat' (first | (refine Box.new' ?_; (simp [go_sem]; done)) | refine Box.alloc ?_ _ | refine Box.grow ?_ _ | refine Box.drew ?_)); done)
  case rest =>
    clear gA
    obtain ⟨b6, rfl, hPw, hA, hU⟩ := hcut
    have hp1 := hpw.out
    go_upto_region 8 with (first | (go_at_call 54; ((with_reducible refine (w_c _ _).mono ?_); rintro e w1 ⟨rfl, ⟨x1, rfl⟩⟩)) | (go_at_call 20; ((with_reducible refine (mul_v hp _).mono ?_); rintro e w1 ⟨rfl, ⟨x1, rfl⟩⟩)))
    go_cut [7, 8, 9] (fun s7 s8 s9 wx => ∃ b7 b9, s7 = .pointer (some ⟨b7, 0, none⟩) ∧ s8 = .bool true ∧ s9 = .pointer (some ⟨b9, 0, none⟩) ∧ Plus w wx ∧ Box wx w.heap.size ak an ∧ Box wx b6 0 up ∧ Box wx b7 pk pn ∧ Box wx b9 0 dn)
    case first =>
      clear hp1
      go_region_held3 (fun w' => w'.cell? ⟨w.heap.size, 0, none⟩ = some (.int .i64 ak) ∧ w'.cell? ⟨w.heap.size, 1, none⟩ = some (.int .i64 an)) (exact cells_1 hA (by repeat' (first | exact Plus.refl _ | refine Plus.alloc ?_ _ | refine Plus.plus ?_ _ | refine Plus.drew ?_ | refine Plus.drewN ?_ _))) (first | (go_at_call 54; ((with_reducible refine (w_c _ _).mono ?_); rintro e w1 ⟨rfl, ⟨x1, rfl⟩⟩)) | (go_at_call 46; ((with_reducible refine (bit_v hdn _).mono ?_); rintro e w1 ⟨rfl, ⟨x1, rfl⟩⟩)))
      all_goals (go_wp2_with fail; go_meet; refine ⟨_, _, rfl, rfl, rfl, ?_, ?_, ?_, ?_, ?_⟩)
      all_goals first | ((repeat' (first | exact Plus.refl _ | exact hPw | refine Plus.alloc ?_ _ | refine Plus.plus ?_ _ | refine Plus.drew ?_ | refine Plus.drewN ?_ _)); done) | ((repeat' (first | exact hA | exact hU | (refine Box.new' ?_; (simp [go_sem]; done)) | refine Box.alloc ?_ _ | refine Box.grow ?_ _ | refine Box.drew ?_)); done)
    case rest =>
      clear hPw hA hU
      obtain ⟨b7, b9, rfl, rfl, rfl, hPw, hA, hU, hB, hD⟩ := hcut
      go_upto_region 9 with fail
      go_cut [10] (fun s10 wx => ∃ b10, s10 = .pointer (some ⟨b10, 0, none⟩) ∧ Plus w wx ∧ Box wx w.heap.size ak an ∧ Box wx b6 0 up ∧ Box wx b7 pk pn ∧ Box wx b9 0 dn ∧ Box wx b10 0 un)
      case first =>
        clear hp1
        go_region_held3 (fun w' => w'.cell? ⟨w.heap.size, 0, none⟩ = some (.int .i64 ak) ∧ w'.cell? ⟨w.heap.size, 1, none⟩ = some (.int .i64 an)) (exact cells_1 hA (by repeat' (first | exact Plus.refl _ | refine Plus.alloc ?_ _ | refine Plus.plus ?_ _ | refine Plus.drew ?_ | refine Plus.drewN ?_ _))) (first | (go_at_call 54; ((with_reducible refine (w_c _ _).mono ?_); rintro e w1 ⟨rfl, ⟨x1, rfl⟩⟩)) | (go_at_call 46; ((with_reducible refine (bit_v hun _).mono ?_); rintro e w1 ⟨rfl, ⟨x1, rfl⟩⟩)))
        all_goals (go_wp2_with fail; go_meet; refine ⟨_, rfl, ?_, ?_, ?_, ?_, ?_, ?_⟩)
        all_goals first | ((repeat' (first | exact Plus.refl _ | exact hPw | refine Plus.alloc ?_ _ | refine Plus.plus ?_ _ | refine Plus.drew ?_ | refine Plus.drewN ?_ _)); done) | ((repeat' (first | exact hA | exact hU | exact hB | exact hD | (refine Box.new' ?_; (simp [go_sem]; done)) | refine Box.alloc ?_ _ | refine Box.grow ?_ _ | refine Box.drew ?_)); done)
      case rest =>
        clear hPw hA hU hB hD
        obtain ⟨b10, rfl, hPw, hA, hU, hB, hD, hE⟩ := hcut
        obtain ⟨a0, a1, a2, a3, a4⟩ := id hA
        haveI : Old w.heap.size wc := ⟨a4⟩
        clear a2 a3 a4
        obtain ⟨c0, c1, c2, c3, c4⟩ := id hU
        haveI : Old b6 wc := ⟨c4⟩
        clear c2 c3 c4
        obtain ⟨d0, d1, d2, d3, d4⟩ := id hB
        haveI : Old b7 wc := ⟨d4⟩
        clear d2 d3 d4
        obtain ⟨f0, f1, f2, f3, f4⟩ := id hD
        haveI : Old b9 wc := ⟨f4⟩
        clear f2 f3 f4
        obtain ⟨g0, g1, g2, g3, g4⟩ := id hE
        haveI : Old b10 wc := ⟨g4⟩
        clear g2 g3 g4
        go_wp2_with fail
        simp only [List.append]
        have Pa0 := fun x : More => cell_plusN11 a0 (Plus.is x)
        have Pa1 := fun x : More => cell_plusN11 a1 (Plus.is x)
        have Pc0 := fun x : More => cell_plusN11 c0 (Plus.is x)
        have Pc1 := fun x : More => cell_plusN11 c1 (Plus.is x)
        have Pd0 := fun x : More => cell_plusN11 d0 (Plus.is x)
        have Pd1 := fun x : More => cell_plusN11 d1 (Plus.is x)
        have Pf0 := fun x : More => cell_plusN11 f0 (Plus.is x)
        have Pf1 := fun x : More => cell_plusN11 f1 (Plus.is x)
        have Pg0 := fun x : More => cell_plusN11 g0 (Plus.is x)
        have Pg1 := fun x : More => cell_plusN11 g1 (Plus.is x)
        have q0 : ¬ s < 0 := by omega
        have q1 := k1.out
        have q2 := k2.out
        have q3 := k3.out
        have q4 : decide (dp ≤ x) = true := decide_eq_true k4.out
        have q5 : decide (x < dq) = true := decide_eq_true k5.out
        have q6 := k6.out
        have q7 := k7.out
        have q8 : (p == 0) = false := beq_eq_false_iff_ne.2 hpz.out
        have q9 := hpz.out
        refine wp_region_plus (by kernel_rfl) (by kernel_rfl) ?_
        repeat (go_big_quiet_step (first | (go_at_call 15; with_reducible exact calls_plus (first_c _)) | (go_at_call 54; with_reducible exact calls_plus (w_c _ _)) | (go_at_call 40; with_reducible exact calls_plus (i32_v hpx _)) | (go_at_call 42; with_reducible exact calls_plus (u32_v hu _)) | (go_at_call_of 46 (Value.int .i64 4); with_reducible exact calls_plus (bit_v hup2 _)) | (go_at_call_of 46 (Value.int .i64 5); with_reducible exact calls_plus (bit_v hdn2 _)) | (go_at_call_of 36 (Value.agg #[.int .i64 0, .int .i64 up]); with_reducible exact calls_plus (same_v e1 _)) | (go_at_call_of 36 (Value.agg #[.int .i64 0, .int .i64 dn]); with_reducible exact calls_plus (same_v e2 _))))
        refine wpQuiet_nil ?_
        intro _ hw'
        obtain ⟨x9, rfl⟩ := hw'
        go_wp2_with fail
        go_returns
        refine ⟨by simp, ?_⟩
        repeat' (first | exact Plus.refl _ | exact hPw | refine Plus.alloc ?_ _ | refine Plus.plus ?_ _ | refine Plus.drew ?_ | refine Plus.drewN ?_ _)
set_option maxRecDepth 100000 in
theorem shifts_lo (ak an s : Int) (h : s < 0) (w : World) : Calls Tryd.prog 11 #[.agg #[.int .i64 ak, .int .i64 an], .int .i64 s] w fun e w' => e = .returned (.bool true) ∧ Plus w w' := by
  go_enter Tryd.func11, Tryd.ntmps11
  go_wp2_with (first | (go_at_call 15; ((with_reducible refine (first_c _).mono ?_); rintro e w1 ⟨rfl, ⟨x1, rfl⟩⟩)))
  go_returns
  refine ⟨by simp, ?_⟩
  repeat' (first | exact Plus.refl _ | refine Plus.alloc ?_ _ | refine Plus.plus ?_ _ | refine Plus.drew ?_ | refine Plus.drewN ?_ _)
set_option maxRecDepth 100000 in
theorem shifts_hi (ak an s : Int) (h : 20 < s) (w : World) : Calls Tryd.prog 11 #[.agg #[.int .i64 ak, .int .i64 an], .int .i64 s] w fun e w' => e = .returned (.bool true) ∧ Plus w w' := by
  have h2 : ¬ s < 0 := by omega
  go_enter Tryd.func11, Tryd.ntmps11
  go_wp2_with (first | (go_at_call 15; ((with_reducible refine (first_c _).mono ?_); rintro e w1 ⟨rfl, ⟨x1, rfl⟩⟩)))
  go_returns
  refine ⟨by simp, ?_⟩
  repeat' (first | exact Plus.refl _ | refine Plus.alloc ?_ _ | refine Plus.plus ?_ _ | refine Plus.drew ?_ | refine Plus.drewN ?_ _)

theorem dn_bd {x p : Int} (hx0 : -2147483648 ≤ x) (hx1 : x < 2147483648) (hp : 1 ≤ p) : -2147483648 ≤ x / p ∧ x / p < 2147483648 := by
  obtain ⟨h1, h2⟩ := floor_bd (x := x) hp
  generalize x / p = d at *
  constructor
  · refine Int.not_lt.1 fun h => ?_
    have : (d + 1) * p ≤ (d + 1) * 1 := Int.mul_le_mul_of_nonpos_left (by omega) hp
    omega
  · refine Int.not_le.1 fun h => ?_
    have : d * 1 ≤ d * p := Int.mul_le_mul_of_nonneg_left hp (by omega)
    omega
theorem shifts_w (ak an s : Int) (w : World) : Calls Tryd.prog 11 #[.agg #[.int .i64 ak, .int .i64 an], .int .i64 s] w fun e w' => e = .returned (.bool true) ∧ Plus w w' := by
  by_cases hlo : s < 0
  · exact shifts_lo ak an s hlo w
  by_cases hhi : 20 < s
  · exact shifts_hi ak an s hhi w
  have h0 : 0 ≤ s := by omega
  have h1 : s ≤ 20 := by omega
  obtain ⟨p1, p2⟩ := pow_bd s h0 h1
  obtain ⟨u0, u1⟩ := word_bd ak an
  have ws : wordR 0 s = s := by rw [word_z (by omega) (by omega)]; omega
  have ws2 : wordR 0 (s + 32) = s + 32 := by rw [word_z (by omega) (by omega)]; omega
  have m1 : s % 32 = s := by omega
  have m2 : (s + 32) % 32 = s := by omega
  have b4 : ∀ z, (wordR 0 z) % 32 = s → bitR 4 ak an 0 z = ⟨0, sg (wordR ak an * 2 ^ s.toNat % 4294967296)⟩ := fun z hz => by
    unfold bitR
    rw [if_pos (by simp), bitN4, hz]
  have b5 : ∀ z, (wordR 0 z) % 32 = s → bitR 5 ak an 0 z = ⟨0, sg (wordR ak an) / 2 ^ s.toNat⟩ := fun z hz => by
    unfold bitR
    rw [if_pos (by simp), bitN5, hz]
  have b6 : ∀ z, (wordR 0 z) % 32 = s → bitR 6 ak an 0 z = ⟨0, wordR ak an / 2 ^ s.toNat⟩ := fun z hz => by
    unfold bitR
    rw [if_pos (by simp), bitN6, hz]
  have hx : i32R ak an = sg (wordR ak an) := sg_i32 ak an
  have hxb : -2147483648 ≤ sg (wordR ak an) ∧ sg (wordR ak an) < 2147483648 := by unfold sg; split <;> omega
  generalize hu : wordR ak an = u at *
  have hm := sg_mul u (2 ^ s.toNat)
  obtain ⟨p, hp⟩ : ∃ p, (2 : Int) ^ s.toNat = p := ⟨_, rfl⟩
  rw [hp] at p1 p2 hm b4 b5 b6
  obtain ⟨q1, q2⟩ := mul_plain hxb.1 hxb.2 p1 p2
  obtain ⟨d1, d2⟩ := dn_bd hxb.1 hxb.2 p1
  obtain ⟨f1, f2⟩ := floor_bd (x := sg u) p1
  rw [Int.add_mul] at f2
  have e1 : (mulR 0 (sg u) 0 p) = ⟨(mulR 0 (sg u) 0 p).k, (mulR 0 (sg u) 0 p).n, true⟩ := by
    rw [← q1]
  refine shifts_h ak an s (s + 32) (sg u) p (sg (u * p % 4294967296)) (mulR 0 (sg u) 0 p).k (mulR 0 (sg u) 0 p).n (sg u / p) (sg u / p + 1) (sg u / p * p) ((sg u / p + 1) * p) (u / p) u h0 h1
    (Lib.hid hx) (Lib.hid (b4 s (by rw [ws]; exact m1))) (Lib.hid e1) (Lib.hid ?_) (Lib.hid (b5 s (by rw [ws]; exact m1))) (Lib.hid (b6 s (by rw [ws]; exact m1))) (Lib.hid hu)
    (Lib.hid (b4 (s + 32) (by rw [ws2]; exact m2))) (Lib.hid (b5 (s + 32) (by rw [ws2]; exact m2))) (Lib.hid ?_) (Lib.hid ?_) (Lib.hid ?_) (Lib.hid (by omega)) (Lib.hid ?_) (Lib.hid ?_) (Lib.hid ?_) (Lib.hid f1) (Lib.hid ?_) (Lib.hid ?_) (Lib.hid ?_) w
  · rw [sg_i32, q2, hm]
  · simp [sameR]
  · simp [sameR]
  · rw [hp]
    exact IntWalk.wrap64_in p (by omega)
  · exact IntWalk.i64_in _ (by omega)
  · exact IntWalk.i64_in _ (by omega)
  · rw [Int.add_mul]
    exact IntWalk.i64_in _ (by omega)
  · rw [Int.add_mul]
    exact f2
  · exact IntWalk.i64_in _ (by omega)
  · rw [Int.tdiv_eq_ediv_of_nonneg u0]
    have k1 := Int.ediv_nonneg u0 (show (0 : Int) ≤ p by omega)
    have k2 := Int.ediv_le_self p u0
    exact IntWalk.i64_in _ (by omega)
end Go.Proofs.YtdmodkmliagiiaaDoor
