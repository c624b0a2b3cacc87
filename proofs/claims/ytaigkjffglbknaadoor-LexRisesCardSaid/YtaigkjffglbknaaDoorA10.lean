/- Contracts: numbers. -/
import Derived.Test.YtaigkjffglbknaaDoorA9
namespace Go.Proofs.YtaigkjffglbknaaDoor
open Go.RowKit


theorem unitAt_i (A : Option Addr) (xs : List Nat) (n c j : Nat) (z : Int) (w : World) (h : Ar .u16 65536 w A xs n c) (hj : j ≤ 9223372036854775807) (hz : z = j) :
    Calls Tryd.prog 49 #[.slice A n c, .int .i64 z] w fun e w' => e = .returned (.int .u16 (uAt xs j)) ∧ w = w' := by
  subst hz
  exact unitAt_c A xs n c j w h hj
theorem TkM.exc {b : Nat} {w w' : World} {s : List Nat} {i : Int} {As : Option Addr} {cs : Nat} {Am : Option Addr} {cm : Nat} (h : TkM w s i As cs Am cm) (he : Exc b w w') (h1 : NoInt .u16 b w) (h2 : NoInt .u32 b w) : TkM w' s i As cs Am cm :=
  ⟨h.str.exc he h1, lim_exc h.big he h2, h.cap, h.max, ty_exc_rd h.str.rd h.tyS he h1, ty_exc_lim h.big h.tyB he h2⟩
theorem uAt_bd {k : IntKind} {w : World} {A : Option Addr} {xs : List Nat} {n c : Nat} (h : Ar k 65536 w A xs n c) (i : Nat) : uAt xs i < 65536 := h.getD_lt (by decide) i
theorem dig_low {xs : List Nat} : low (xs.take (spanL isDig xs)) = true := by
  induction xs with
  | nil => rfl
  | cons x r ih =>
    unfold spanL
    by_cases h : isDig x = true
    · rw [if_pos h, List.take_succ_cons]
      unfold low at ih ⊢
      rw [List.all_cons, ih]
      have : x ≤ 57 := by simp [isDig] at h; omega
      simp; omega
    · rw [if_neg h]; rfl
theorem byts_get {xs : List Nat} {i : Nat} (h : i < (byts xs).size) (hb : isB xs) : ((byts xs)[i]'h).toNat = xs.getD i 0 := by
  have hl : i < xs.length := by rwa [byts_size] at h
  have e : (byts xs)[i]'h = (xs[i]'hl).toUInt8 := by
    have q : (byts xs).data.toList[i]? = some ((byts xs)[i]'h) := by
      rw [List.getElem?_eq_getElem (by simpa using h)]
      rfl
    have q2 : (byts xs).data.toList = xs.map Nat.toUInt8 := rfl
    rw [q2, List.getElem?_map, List.getElem?_eq_getElem hl] at q
    exact (Option.some.inj q).symm
  rw [e, toNat_u8 (hb _ (List.getElem_mem hl)), List.getD_eq_getElem?_getD, List.getElem?_eq_getElem hl]
  rfl
theorem uAt_take {xs : List Nat} {i m : Nat} (h : i < m) : (xs.take m).getD i 0 = uAt xs i := getD_take h
theorem data48 {d : ByteArray} : (d.toList == [48]) = decide (d.data.toList = [48]) := data_eq d [48]
theorem size_one {d : ByteArray} (h : d.data.toList = [48]) : d.size = 1 := by
  have := congrArg List.length h
  simpa using this
set_option maxRecDepth 100000 in
set_option maxHeartbeats 4000000 in
theorem num_p0 (A : Option Addr) (xs : List Nat) (n c v nx : Nat) (d : ByteArray) (w : World) (H : Hid (Ar .u16 65536 w A xs n c)) (hcap : n ≤ c) (hn : n ≤ 140737488355328) (HS : Hid (spanL isDig xs = d.size)) (hs1 : d.size ≤ n) (hd0 : 0 < d.size) (HD : Hid (plS (xs.take d.size) = d)) (HV : Hid (uAt xs d.size = v)) (HX : Hid (uAt xs (d.size + 1) = nx)) (H0 : Hid (d[0].toNat = uAt xs 0)) (hb1 : 1 < d.size) (d1 : decide ((1 : Int) < d.size) = true) (e48 : ((d[0].toNat : Int) == 48) = true)  : Calls Tryd.prog 46 #[.slice A n c] w (RetTok (numM xs) w) := by
  have HM : Hid (numM xs = flt 5) := Lib.hid (by
    have c1 : 1 < d.size ∧ uAt xs 0 = 48 := by rw [← H0.out]; simp at e48; omega
    rw [numM, HS.out, HD.out, HV.out, HX.out]
    rw [if_pos c1])
  go_enter Tryd.func46, Tryd.ntmps46
  go_wp2_with (first | (go_at_call 42; (with_reducible refine (span_dig _ _ _ _ _ (H.out.plus (by repeat' (first | exact Plus.refl _ | refine Plus.alloc ?_ _ | refine Plus.plus ?_ _ | refine Plus.drew ?_ | refine Plus.drewN ?_ _)))).mono ?_); rintro e w1 ⟨rfl, rfl⟩; rw [HS.out]) | (go_at_call 56; (with_reducible refine (plain_c _ (xs.take d.size) _ _ _ ((H.out.tk hs1).plus (by repeat' (first | exact Plus.refl _ | refine Plus.alloc ?_ _ | refine Plus.plus ?_ _ | refine Plus.drew ?_ | refine Plus.drewN ?_ _))) (by omega)).mono ?_); rintro e w1 ⟨rfl, ⟨x2, rfl⟩⟩; rw [HD.out]) | (go_at_call 49; (with_reducible refine (unitAt_i _ _ _ _ d.size _ _ (H.out.plus (by repeat' (first | exact Plus.refl _ | refine Plus.alloc ?_ _ | refine Plus.plus ?_ _ | refine Plus.drew ?_ | refine Plus.drewN ?_ _))) (by omega) (by omega)).mono ?_); rintro e w1 ⟨rfl, rfl⟩; rw [HV.out]) | (go_at_call 49; (with_reducible refine (unitAt_i _ _ _ _ (d.size + 1) _ _ (H.out.plus (by repeat' (first | exact Plus.refl _ | refine Plus.alloc ?_ _ | refine Plus.plus ?_ _ | refine Plus.drew ?_ | refine Plus.drewN ?_ _))) (by omega) (by omega)).mono ?_); rintro e w1 ⟨rfl, rfl⟩; rw [HX.out]) | (go_at_call 50; (with_reducible refine (fault_c _ _).mono ?_); rintro e w1 ⟨rfl, ⟨x3, rfl⟩⟩))
  go_returns
  rw [HM.out]
  exact RetTok.er (by repeat' (first | exact Plus.refl _ | refine Plus.alloc ?_ _ | refine Plus.plus ?_ _ | refine Plus.drew ?_ | refine Plus.drewN ?_ _))
set_option maxRecDepth 100000 in
set_option maxHeartbeats 4000000 in
theorem num_p1 (A : Option Addr) (xs : List Nat) (n c v nx : Nat) (d : ByteArray) (w : World) (H : Hid (Ar .u16 65536 w A xs n c)) (hcap : n ≤ c) (HS : Hid (spanL isDig xs = d.size)) (hs1 : d.size ≤ n) (hd0 : 0 < d.size) (HD : Hid (plS (xs.take d.size) = d)) (HV : Hid (uAt xs d.size = v)) (HX : Hid (uAt xs (d.size + 1) = nx)) (hxb : nx < 65536) (hb1 : d.size ≤ 1) (d1 : decide ((1 : Int) < d.size) = false) (ev : ((v : Int) == 110) = true) : Calls Tryd.prog 46 #[.slice A n c] w (RetTok (numM xs) w) := by
  have HM : Hid (numM xs = bigM d nx) := Lib.hid (by
    have c1 : ¬ (1 < d.size ∧ uAt xs 0 = 48) := by omega
    rw [numM, HS.out, HD.out, HV.out, HX.out]
    rw [if_neg c1]
    rw [if_pos (by simp at ev; omega)])
  go_enter Tryd.func46, Tryd.ntmps46
  go_wp2_with (first | (go_at_call 42; (with_reducible refine (span_dig _ _ _ _ _ (H.out.plus (by repeat' (first | exact Plus.refl _ | refine Plus.alloc ?_ _ | refine Plus.plus ?_ _ | refine Plus.drew ?_ | refine Plus.drewN ?_ _)))).mono ?_); rintro e w1 ⟨rfl, rfl⟩; rw [HS.out]) | (go_at_call 56; (with_reducible refine (plain_c _ (xs.take d.size) _ _ _ ((H.out.tk hs1).plus (by repeat' (first | exact Plus.refl _ | refine Plus.alloc ?_ _ | refine Plus.plus ?_ _ | refine Plus.drew ?_ | refine Plus.drewN ?_ _))) (by omega)).mono ?_); rintro e w1 ⟨rfl, ⟨x2, rfl⟩⟩; rw [HD.out]) | (go_at_call 49; (with_reducible refine (unitAt_i _ _ _ _ d.size _ _ (H.out.plus (by repeat' (first | exact Plus.refl _ | refine Plus.alloc ?_ _ | refine Plus.plus ?_ _ | refine Plus.drew ?_ | refine Plus.drewN ?_ _))) (by omega) (by omega)).mono ?_); rintro e w1 ⟨rfl, rfl⟩; rw [HV.out]) | (go_at_call 49; (with_reducible refine (unitAt_i _ _ _ _ (d.size + 1) _ _ (H.out.plus (by repeat' (first | exact Plus.refl _ | refine Plus.alloc ?_ _ | refine Plus.plus ?_ _ | refine Plus.drew ?_ | refine Plus.drewN ?_ _))) (by omega) (by omega)).mono ?_); rintro e w1 ⟨rfl, rfl⟩; rw [HX.out]) | (go_at_call 50; (with_reducible refine (fault_c _ _).mono ?_); rintro e w1 ⟨rfl, ⟨x3, rfl⟩⟩) | (go_at_call 57; (with_reducible refine (bigt_c d nx hxb (by omega) _).mono ?_); rintro e w1 ⟨As, cs, Am, cm, rfl, hM, ⟨x5, rfl⟩⟩; have HMM := Lib.hid hM; clear hM; unfold tkV))
  go_returns
  rw [HM.out]
  refine ⟨As, cs, Am, cm, rfl, TkM.exc (b := w.heap.size) HMM.out ?ze ?zn ?zm, ?zp⟩
  case ze => repeat' (first | exact Exc.base _ _ _ | refine Exc.alloc ?_ _ | refine Exc.plus ?_ _ | refine Exc.drew ?_ | refine Exc.drewN ?_ _)
  case zn => exact noInt_of (C := #[.int .i64 0, .string ⟨#[]⟩, .slice none 0 0, .int .i64 0, .int .i64 0, .bool false, .slice none 0 0, .int .i64 0, .bool false]) (fun i => by simp only [go_sem]) rfl
  case zm => exact noInt_of (C := #[.int .i64 0, .string ⟨#[]⟩, .slice none 0 0, .int .i64 0, .int .i64 0, .bool false, .slice none 0 0, .int .i64 0, .bool false]) (fun i => by simp only [go_sem]) rfl
  case zp => repeat' (first | exact Plus.refl _ | refine Plus.alloc ?_ _ | refine Plus.plus ?_ _ | refine Plus.drew ?_ | refine Plus.drewN ?_ _)
set_option maxRecDepth 100000 in
set_option maxHeartbeats 4000000 in
theorem num_p2 (A : Option Addr) (xs : List Nat) (n c v nx : Nat) (d : ByteArray) (w : World) (H : Hid (Ar .u16 65536 w A xs n c)) (hcap : n ≤ c) (HS : Hid (spanL isDig xs = d.size)) (hs1 : d.size ≤ n) (hd0 : 0 < d.size) (HD : Hid (plS (xs.take d.size) = d)) (HV : Hid (uAt xs d.size = v)) (hvb : v < 65536) (HX : Hid (uAt xs (d.size + 1) = nx)) (hb1 : d.size ≤ 1) (d1 : decide ((1 : Int) < d.size) = false) (ev : ((v : Int) == 110) = false) (HF : Hid (isFra v = true)) : Calls Tryd.prog 46 #[.slice A n c] w (RetTok (numM xs) w) := by
  have HM : Hid (numM xs = flt 6) := Lib.hid (by
    have c1 : ¬ (1 < d.size ∧ uAt xs 0 = 48) := by omega
    rw [numM, HS.out, HD.out, HV.out, HX.out]
    rw [if_neg c1]
    rw [if_neg (by simp at ev; omega)]
    rw [HF.out]; rfl)
  go_enter Tryd.func46, Tryd.ntmps46
  go_wp2_with (first | (go_at_call 42; (with_reducible refine (span_dig _ _ _ _ _ (H.out.plus (by repeat' (first | exact Plus.refl _ | refine Plus.alloc ?_ _ | refine Plus.plus ?_ _ | refine Plus.drew ?_ | refine Plus.drewN ?_ _)))).mono ?_); rintro e w1 ⟨rfl, rfl⟩; rw [HS.out]) | (go_at_call 56; (with_reducible refine (plain_c _ (xs.take d.size) _ _ _ ((H.out.tk hs1).plus (by repeat' (first | exact Plus.refl _ | refine Plus.alloc ?_ _ | refine Plus.plus ?_ _ | refine Plus.drew ?_ | refine Plus.drewN ?_ _))) (by omega)).mono ?_); rintro e w1 ⟨rfl, ⟨x2, rfl⟩⟩; rw [HD.out]) | (go_at_call 49; (with_reducible refine (unitAt_i _ _ _ _ d.size _ _ (H.out.plus (by repeat' (first | exact Plus.refl _ | refine Plus.alloc ?_ _ | refine Plus.plus ?_ _ | refine Plus.drew ?_ | refine Plus.drewN ?_ _))) (by omega) (by omega)).mono ?_); rintro e w1 ⟨rfl, rfl⟩; rw [HV.out]) | (go_at_call 49; (with_reducible refine (unitAt_i _ _ _ _ (d.size + 1) _ _ (H.out.plus (by repeat' (first | exact Plus.refl _ | refine Plus.alloc ?_ _ | refine Plus.plus ?_ _ | refine Plus.drew ?_ | refine Plus.drewN ?_ _))) (by omega) (by omega)).mono ?_); rintro e w1 ⟨rfl, rfl⟩; rw [HX.out]) | (go_at_call 50; (with_reducible refine (fault_c _ _).mono ?_); rintro e w1 ⟨rfl, ⟨x3, rfl⟩⟩) | (go_at_call 58; (with_reducible refine (isFra_c v hvb _).mono ?_); rintro e w1 ⟨rfl, rfl⟩; rw [HF.out]))
  go_returns
  rw [HM.out]
  exact RetTok.er (by repeat' (first | exact Plus.refl _ | refine Plus.alloc ?_ _ | refine Plus.plus ?_ _ | refine Plus.drew ?_ | refine Plus.drewN ?_ _))
set_option maxRecDepth 100000 in
set_option maxHeartbeats 4000000 in
theorem num_p3 (A : Option Addr) (xs : List Nat) (n c v nx : Nat) (d : ByteArray) (w : World) (H : Hid (Ar .u16 65536 w A xs n c)) (hcap : n ≤ c) (HS : Hid (spanL isDig xs = d.size)) (hs1 : d.size ≤ n) (hd0 : 0 < d.size) (HD : Hid (plS (xs.take d.size) = d)) (HV : Hid (uAt xs d.size = v)) (hvb : v < 65536) (HX : Hid (uAt xs (d.size + 1) = nx)) (hb1 : d.size ≤ 1) (d1 : decide ((1 : Int) < d.size) = false) (ev : ((v : Int) == 110) = false) (HF : Hid (isFra v = false)) (z1 : (d.toList == [48]) = true) (HR : Hid (isRad v = true)) : Calls Tryd.prog 46 #[.slice A n c] w (RetTok (numM xs) w) := by
  have HM : Hid (numM xs = flt 6) := Lib.hid (by
    have c1 : ¬ (1 < d.size ∧ uAt xs 0 = 48) := by omega
    rw [numM, HS.out, HD.out, HV.out, HX.out]
    rw [if_neg c1]
    rw [if_neg (by simp at ev; omega)]
    rw [HF.out, ← data48, z1, HR.out]
    rfl)
  go_enter Tryd.func46, Tryd.ntmps46
  go_wp2_with (first | (go_at_call 42; (with_reducible refine (span_dig _ _ _ _ _ (H.out.plus (by repeat' (first | exact Plus.refl _ | refine Plus.alloc ?_ _ | refine Plus.plus ?_ _ | refine Plus.drew ?_ | refine Plus.drewN ?_ _)))).mono ?_); rintro e w1 ⟨rfl, rfl⟩; rw [HS.out]) | (go_at_call 56; (with_reducible refine (plain_c _ (xs.take d.size) _ _ _ ((H.out.tk hs1).plus (by repeat' (first | exact Plus.refl _ | refine Plus.alloc ?_ _ | refine Plus.plus ?_ _ | refine Plus.drew ?_ | refine Plus.drewN ?_ _))) (by omega)).mono ?_); rintro e w1 ⟨rfl, ⟨x2, rfl⟩⟩; rw [HD.out]) | (go_at_call 49; (with_reducible refine (unitAt_i _ _ _ _ d.size _ _ (H.out.plus (by repeat' (first | exact Plus.refl _ | refine Plus.alloc ?_ _ | refine Plus.plus ?_ _ | refine Plus.drew ?_ | refine Plus.drewN ?_ _))) (by omega) (by omega)).mono ?_); rintro e w1 ⟨rfl, rfl⟩; rw [HV.out]) | (go_at_call 49; (with_reducible refine (unitAt_i _ _ _ _ (d.size + 1) _ _ (H.out.plus (by repeat' (first | exact Plus.refl _ | refine Plus.alloc ?_ _ | refine Plus.plus ?_ _ | refine Plus.drew ?_ | refine Plus.drewN ?_ _))) (by omega) (by omega)).mono ?_); rintro e w1 ⟨rfl, rfl⟩; rw [HX.out]) | (go_at_call 50; (with_reducible refine (fault_c _ _).mono ?_); rintro e w1 ⟨rfl, ⟨x3, rfl⟩⟩) | (go_at_call 58; (with_reducible refine (isFra_c v hvb _).mono ?_); rintro e w1 ⟨rfl, rfl⟩; rw [HF.out]) | (go_at_call 59; (with_reducible refine (isRad_c v hvb _).mono ?_); rintro e w1 ⟨rfl, rfl⟩; rw [HR.out]))
  go_returns
  rw [HM.out]
  exact RetTok.er (by repeat' (first | exact Plus.refl _ | refine Plus.alloc ?_ _ | refine Plus.plus ?_ _ | refine Plus.drew ?_ | refine Plus.drewN ?_ _))
set_option maxRecDepth 100000 in
set_option maxHeartbeats 4000000 in
theorem num_p4 (A : Option Addr) (xs : List Nat) (n c v nx : Nat) (d : ByteArray) (w : World) (H : Hid (Ar .u16 65536 w A xs n c)) (hcap : n ≤ c) (HS : Hid (spanL isDig xs = d.size)) (hs1 : d.size ≤ n) (hd0 : 0 < d.size) (HD : Hid (plS (xs.take d.size) = d)) (HV : Hid (uAt xs d.size = v)) (hvb : v < 65536) (HX : Hid (uAt xs (d.size + 1) = nx)) (hb1 : d.size ≤ 1) (d1 : decide ((1 : Int) < d.size) = false) (ev : ((v : Int) == 110) = false) (HF : Hid (isFra v = false)) (z1 : (d.toList == [48]) = true) (HR : Hid (isRad v = false)) (HL : Hid (isLet v = true)) : Calls Tryd.prog 46 #[.slice A n c] w (RetTok (numM xs) w) := by
  have HM : Hid (numM xs = flt 5) := Lib.hid (by
    have c1 : ¬ (1 < d.size ∧ uAt xs 0 = 48) := by omega
    rw [numM, HS.out, HD.out, HV.out, HX.out]
    rw [if_neg c1]
    rw [if_neg (by simp at ev; omega)]
    rw [HF.out, ← data48, z1, HR.out]
    rw [if_neg (by simp)]
    rw [HL.out]
    rfl)
  go_enter Tryd.func46, Tryd.ntmps46
  go_wp2_with (first | (go_at_call 42; (with_reducible refine (span_dig _ _ _ _ _ (H.out.plus (by repeat' (first | exact Plus.refl _ | refine Plus.alloc ?_ _ | refine Plus.plus ?_ _ | refine Plus.drew ?_ | refine Plus.drewN ?_ _)))).mono ?_); rintro e w1 ⟨rfl, rfl⟩; rw [HS.out]) | (go_at_call 56; (with_reducible refine (plain_c _ (xs.take d.size) _ _ _ ((H.out.tk hs1).plus (by repeat' (first | exact Plus.refl _ | refine Plus.alloc ?_ _ | refine Plus.plus ?_ _ | refine Plus.drew ?_ | refine Plus.drewN ?_ _))) (by omega)).mono ?_); rintro e w1 ⟨rfl, ⟨x2, rfl⟩⟩; rw [HD.out]) | (go_at_call 49; (with_reducible refine (unitAt_i _ _ _ _ d.size _ _ (H.out.plus (by repeat' (first | exact Plus.refl _ | refine Plus.alloc ?_ _ | refine Plus.plus ?_ _ | refine Plus.drew ?_ | refine Plus.drewN ?_ _))) (by omega) (by omega)).mono ?_); rintro e w1 ⟨rfl, rfl⟩; rw [HV.out]) | (go_at_call 49; (with_reducible refine (unitAt_i _ _ _ _ (d.size + 1) _ _ (H.out.plus (by repeat' (first | exact Plus.refl _ | refine Plus.alloc ?_ _ | refine Plus.plus ?_ _ | refine Plus.drew ?_ | refine Plus.drewN ?_ _))) (by omega) (by omega)).mono ?_); rintro e w1 ⟨rfl, rfl⟩; rw [HX.out]) | (go_at_call 50; (with_reducible refine (fault_c _ _).mono ?_); rintro e w1 ⟨rfl, ⟨x3, rfl⟩⟩) | (go_at_call 58; (with_reducible refine (isFra_c v hvb _).mono ?_); rintro e w1 ⟨rfl, rfl⟩; rw [HF.out]) | (go_at_call 59; (with_reducible refine (isRad_c v hvb _).mono ?_); rintro e w1 ⟨rfl, rfl⟩; rw [HR.out]) | (go_at_call 35; (with_reducible refine (isLet_c v hvb _).mono ?_); rintro e w1 ⟨rfl, rfl⟩; rw [HL.out]))
  go_returns
  rw [HM.out]
  exact RetTok.er (by repeat' (first | exact Plus.refl _ | refine Plus.alloc ?_ _ | refine Plus.plus ?_ _ | refine Plus.drew ?_ | refine Plus.drewN ?_ _))
set_option maxRecDepth 100000 in
set_option maxHeartbeats 4000000 in
theorem num_p5 (A : Option Addr) (xs : List Nat) (n c v nx : Nat) (d : ByteArray) (w : World) (H : Hid (Ar .u16 65536 w A xs n c)) (hcap : n ≤ c) (HS : Hid (spanL isDig xs = d.size)) (hs1 : d.size ≤ n) (hd0 : 0 < d.size) (HD : Hid (plS (xs.take d.size) = d)) (HV : Hid (uAt xs d.size = v)) (hvb : v < 65536) (HX : Hid (uAt xs (d.size + 1) = nx)) (hb1 : d.size ≤ 1) (d1 : decide ((1 : Int) < d.size) = false) (ev : ((v : Int) == 110) = false) (HF : Hid (isFra v = false)) (z1 : (d.toList == [48]) = true) (HR : Hid (isRad v = false)) (HL : Hid (isLet v = false)) (HLai : Hid (Lai w)) (pa : Ans) (HP : Hid (parS d.data.toList = pa)) (pk : pa.ok = true) : Calls Tryd.prog 46 #[.slice A n c] w (RetTok (numM xs) w) := by
  have HM : Hid (numM xs = ⟨{ tk0 with k := 2, nk := pa.k, n := pa.n }, d.size, 0⟩) := Lib.hid (by
    have c1 : ¬ (1 < d.size ∧ uAt xs 0 = 48) := by omega
    rw [numM, HS.out, HD.out, HV.out, HX.out]
    rw [if_neg c1]
    rw [if_neg (by simp at ev; omega)]
    rw [HF.out, ← data48, z1, HR.out]
    rw [if_neg (by simp)]
    rw [HL.out]
    rw [if_neg (by decide), HP.out, pk]
    rfl)
  go_enter Tryd.func46, Tryd.ntmps46
  go_wp2_with (first | (go_at_call 42; (with_reducible refine (span_dig _ _ _ _ _ (H.out.plus (by repeat' (first | exact Plus.refl _ | refine Plus.alloc ?_ _ | refine Plus.plus ?_ _ | refine Plus.drew ?_ | refine Plus.drewN ?_ _)))).mono ?_); rintro e w1 ⟨rfl, rfl⟩; rw [HS.out]) | (go_at_call 56; (with_reducible refine (plain_c _ (xs.take d.size) _ _ _ ((H.out.tk hs1).plus (by repeat' (first | exact Plus.refl _ | refine Plus.alloc ?_ _ | refine Plus.plus ?_ _ | refine Plus.drew ?_ | refine Plus.drewN ?_ _))) (by omega)).mono ?_); rintro e w1 ⟨rfl, ⟨x2, rfl⟩⟩; rw [HD.out]) | (go_at_call 49; (with_reducible refine (unitAt_i _ _ _ _ d.size _ _ (H.out.plus (by repeat' (first | exact Plus.refl _ | refine Plus.alloc ?_ _ | refine Plus.plus ?_ _ | refine Plus.drew ?_ | refine Plus.drewN ?_ _))) (by omega) (by omega)).mono ?_); rintro e w1 ⟨rfl, rfl⟩; rw [HV.out]) | (go_at_call 49; (with_reducible refine (unitAt_i _ _ _ _ (d.size + 1) _ _ (H.out.plus (by repeat' (first | exact Plus.refl _ | refine Plus.alloc ?_ _ | refine Plus.plus ?_ _ | refine Plus.drew ?_ | refine Plus.drewN ?_ _))) (by omega) (by omega)).mono ?_); rintro e w1 ⟨rfl, rfl⟩; rw [HX.out]) | (go_at_call 50; (with_reducible refine (fault_c _ _).mono ?_); rintro e w1 ⟨rfl, ⟨x3, rfl⟩⟩) | (go_at_call 58; (with_reducible refine (isFra_c v hvb _).mono ?_); rintro e w1 ⟨rfl, rfl⟩; rw [HF.out]) | (go_at_call 59; (with_reducible refine (isRad_c v hvb _).mono ?_); rintro e w1 ⟨rfl, rfl⟩; rw [HR.out]) | (go_at_call 35; (with_reducible refine (isLet_c v hvb _).mono ?_); rintro e w1 ⟨rfl, rfl⟩; rw [HL.out]) | (go_at_call 60; (with_reducible refine (parse_c d (by omega) _ (HLai.out.plus (by repeat' (first | exact Plus.refl _ | refine Plus.alloc ?_ _ | refine Plus.plus ?_ _ | refine Plus.drew ?_ | refine Plus.drewN ?_ _)))).mono ?_); rintro e w1 ⟨rfl, ⟨x4, rfl⟩⟩; rw [HP.out]))
  go_returns
  rw [HM.out]
  exact RetTok.num (by repeat' (first | exact Plus.refl _ | refine Plus.alloc ?_ _ | refine Plus.plus ?_ _ | refine Plus.drew ?_ | refine Plus.drewN ?_ _))
set_option maxRecDepth 100000 in
set_option maxHeartbeats 4000000 in
theorem num_p6 (A : Option Addr) (xs : List Nat) (n c v nx : Nat) (d : ByteArray) (w : World) (H : Hid (Ar .u16 65536 w A xs n c)) (hcap : n ≤ c) (HS : Hid (spanL isDig xs = d.size)) (hs1 : d.size ≤ n) (hd0 : 0 < d.size) (HD : Hid (plS (xs.take d.size) = d)) (HV : Hid (uAt xs d.size = v)) (hvb : v < 65536) (HX : Hid (uAt xs (d.size + 1) = nx)) (hb1 : d.size ≤ 1) (d1 : decide ((1 : Int) < d.size) = false) (ev : ((v : Int) == 110) = false) (HF : Hid (isFra v = false)) (z1 : (d.toList == [48]) = true) (HR : Hid (isRad v = false)) (HL : Hid (isLet v = false)) (HLai : Hid (Lai w)) (pa : Ans) (HP : Hid (parS d.data.toList = pa)) (pk : pa.ok = false) : Calls Tryd.prog 46 #[.slice A n c] w (RetTok (numM xs) w) := by
  have HM : Hid (numM xs = flt 6) := Lib.hid (by
    have c1 : ¬ (1 < d.size ∧ uAt xs 0 = 48) := by omega
    rw [numM, HS.out, HD.out, HV.out, HX.out]
    rw [if_neg c1]
    rw [if_neg (by simp at ev; omega)]
    rw [HF.out, ← data48, z1, HR.out]
    rw [if_neg (by simp)]
    rw [HL.out]
    rw [if_neg (by decide), HP.out, pk]
    rfl)
  go_enter Tryd.func46, Tryd.ntmps46
  go_wp2_with (first | (go_at_call 42; (with_reducible refine (span_dig _ _ _ _ _ (H.out.plus (by repeat' (first | exact Plus.refl _ | refine Plus.alloc ?_ _ | refine Plus.plus ?_ _ | refine Plus.drew ?_ | refine Plus.drewN ?_ _)))).mono ?_); rintro e w1 ⟨rfl, rfl⟩; rw [HS.out]) | (go_at_call 56; (with_reducible refine (plain_c _ (xs.take d.size) _ _ _ ((H.out.tk hs1).plus (by repeat' (first | exact Plus.refl _ | refine Plus.alloc ?_ _ | refine Plus.plus ?_ _ | refine Plus.drew ?_ | refine Plus.drewN ?_ _))) (by omega)).mono ?_); rintro e w1 ⟨rfl, ⟨x2, rfl⟩⟩; rw [HD.out]) | (go_at_call 49; (with_reducible refine (unitAt_i _ _ _ _ d.size _ _ (H.out.plus (by repeat' (first | exact Plus.refl _ | refine Plus.alloc ?_ _ | refine Plus.plus ?_ _ | refine Plus.drew ?_ | refine Plus.drewN ?_ _))) (by omega) (by omega)).mono ?_); rintro e w1 ⟨rfl, rfl⟩; rw [HV.out]) | (go_at_call 49; (with_reducible refine (unitAt_i _ _ _ _ (d.size + 1) _ _ (H.out.plus (by repeat' (first | exact Plus.refl _ | refine Plus.alloc ?_ _ | refine Plus.plus ?_ _ | refine Plus.drew ?_ | refine Plus.drewN ?_ _))) (by omega) (by omega)).mono ?_); rintro e w1 ⟨rfl, rfl⟩; rw [HX.out]) | (go_at_call 50; (with_reducible refine (fault_c _ _).mono ?_); rintro e w1 ⟨rfl, ⟨x3, rfl⟩⟩) | (go_at_call 58; (with_reducible refine (isFra_c v hvb _).mono ?_); rintro e w1 ⟨rfl, rfl⟩; rw [HF.out]) | (go_at_call 59; (with_reducible refine (isRad_c v hvb _).mono ?_); rintro e w1 ⟨rfl, rfl⟩; rw [HR.out]) | (go_at_call 35; (with_reducible refine (isLet_c v hvb _).mono ?_); rintro e w1 ⟨rfl, rfl⟩; rw [HL.out]) | (go_at_call 60; (with_reducible refine (parse_c d (by omega) _ (HLai.out.plus (by repeat' (first | exact Plus.refl _ | refine Plus.alloc ?_ _ | refine Plus.plus ?_ _ | refine Plus.drew ?_ | refine Plus.drewN ?_ _)))).mono ?_); rintro e w1 ⟨rfl, ⟨x4, rfl⟩⟩; rw [HP.out]))
  go_returns
  rw [HM.out]
  exact RetTok.er (by repeat' (first | exact Plus.refl _ | refine Plus.alloc ?_ _ | refine Plus.plus ?_ _ | refine Plus.drew ?_ | refine Plus.drewN ?_ _))
set_option maxRecDepth 100000 in
set_option maxHeartbeats 4000000 in
theorem num_p7 (A : Option Addr) (xs : List Nat) (n c v nx : Nat) (d : ByteArray) (w : World) (H : Hid (Ar .u16 65536 w A xs n c)) (hcap : n ≤ c) (HS : Hid (spanL isDig xs = d.size)) (hs1 : d.size ≤ n) (hd0 : 0 < d.size) (HD : Hid (plS (xs.take d.size) = d)) (HV : Hid (uAt xs d.size = v)) (hvb : v < 65536) (HX : Hid (uAt xs (d.size + 1) = nx)) (hb1 : d.size ≤ 1) (d1 : decide ((1 : Int) < d.size) = false) (ev : ((v : Int) == 110) = false) (HF : Hid (isFra v = false)) (z1 : (d.toList == [48]) = false) (HL : Hid (isLet v = true)) : Calls Tryd.prog 46 #[.slice A n c] w (RetTok (numM xs) w) := by
  have HM : Hid (numM xs = flt 5) := Lib.hid (by
    have c1 : ¬ (1 < d.size ∧ uAt xs 0 = 48) := by omega
    rw [numM, HS.out, HD.out, HV.out, HX.out]
    rw [if_neg c1]
    rw [if_neg (by simp at ev; omega)]
    rw [HF.out, ← data48, z1]
    rw [if_neg (by simp)]
    rw [HL.out]
    rfl)
  go_enter Tryd.func46, Tryd.ntmps46
  go_wp2_with (first | (go_at_call 42; (with_reducible refine (span_dig _ _ _ _ _ (H.out.plus (by repeat' (first | exact Plus.refl _ | refine Plus.alloc ?_ _ | refine Plus.plus ?_ _ | refine Plus.drew ?_ | refine Plus.drewN ?_ _)))).mono ?_); rintro e w1 ⟨rfl, rfl⟩; rw [HS.out]) | (go_at_call 56; (with_reducible refine (plain_c _ (xs.take d.size) _ _ _ ((H.out.tk hs1).plus (by repeat' (first | exact Plus.refl _ | refine Plus.alloc ?_ _ | refine Plus.plus ?_ _ | refine Plus.drew ?_ | refine Plus.drewN ?_ _))) (by omega)).mono ?_); rintro e w1 ⟨rfl, ⟨x2, rfl⟩⟩; rw [HD.out]) | (go_at_call 49; (with_reducible refine (unitAt_i _ _ _ _ d.size _ _ (H.out.plus (by repeat' (first | exact Plus.refl _ | refine Plus.alloc ?_ _ | refine Plus.plus ?_ _ | refine Plus.drew ?_ | refine Plus.drewN ?_ _))) (by omega) (by omega)).mono ?_); rintro e w1 ⟨rfl, rfl⟩; rw [HV.out]) | (go_at_call 49; (with_reducible refine (unitAt_i _ _ _ _ (d.size + 1) _ _ (H.out.plus (by repeat' (first | exact Plus.refl _ | refine Plus.alloc ?_ _ | refine Plus.plus ?_ _ | refine Plus.drew ?_ | refine Plus.drewN ?_ _))) (by omega) (by omega)).mono ?_); rintro e w1 ⟨rfl, rfl⟩; rw [HX.out]) | (go_at_call 50; (with_reducible refine (fault_c _ _).mono ?_); rintro e w1 ⟨rfl, ⟨x3, rfl⟩⟩) | (go_at_call 58; (with_reducible refine (isFra_c v hvb _).mono ?_); rintro e w1 ⟨rfl, rfl⟩; rw [HF.out]) | (go_at_call 35; (with_reducible refine (isLet_c v hvb _).mono ?_); rintro e w1 ⟨rfl, rfl⟩; rw [HL.out]))
  go_returns
  rw [HM.out]
  exact RetTok.er (by repeat' (first | exact Plus.refl _ | refine Plus.alloc ?_ _ | refine Plus.plus ?_ _ | refine Plus.drew ?_ | refine Plus.drewN ?_ _))
set_option maxRecDepth 100000 in
set_option maxHeartbeats 4000000 in
theorem num_p8 (A : Option Addr) (xs : List Nat) (n c v nx : Nat) (d : ByteArray) (w : World) (H : Hid (Ar .u16 65536 w A xs n c)) (hcap : n ≤ c) (HS : Hid (spanL isDig xs = d.size)) (hs1 : d.size ≤ n) (hd0 : 0 < d.size) (HD : Hid (plS (xs.take d.size) = d)) (HV : Hid (uAt xs d.size = v)) (hvb : v < 65536) (HX : Hid (uAt xs (d.size + 1) = nx)) (hb1 : d.size ≤ 1) (d1 : decide ((1 : Int) < d.size) = false) (ev : ((v : Int) == 110) = false) (HF : Hid (isFra v = false)) (z1 : (d.toList == [48]) = false) (HL : Hid (isLet v = false)) (HLai : Hid (Lai w)) (pa : Ans) (HP : Hid (parS d.data.toList = pa)) (pk : pa.ok = true) : Calls Tryd.prog 46 #[.slice A n c] w (RetTok (numM xs) w) := by
  have HM : Hid (numM xs = ⟨{ tk0 with k := 2, nk := pa.k, n := pa.n }, d.size, 0⟩) := Lib.hid (by
    have c1 : ¬ (1 < d.size ∧ uAt xs 0 = 48) := by omega
    rw [numM, HS.out, HD.out, HV.out, HX.out]
    rw [if_neg c1]
    rw [if_neg (by simp at ev; omega)]
    rw [HF.out, ← data48, z1]
    rw [if_neg (by simp)]
    rw [HL.out]
    rw [if_neg (by decide), HP.out, pk]
    rfl)
  go_enter Tryd.func46, Tryd.ntmps46
  go_wp2_with (first | (go_at_call 42; (with_reducible refine (span_dig _ _ _ _ _ (H.out.plus (by repeat' (first | exact Plus.refl _ | refine Plus.alloc ?_ _ | refine Plus.plus ?_ _ | refine Plus.drew ?_ | refine Plus.drewN ?_ _)))).mono ?_); rintro e w1 ⟨rfl, rfl⟩; rw [HS.out]) | (go_at_call 56; (with_reducible refine (plain_c _ (xs.take d.size) _ _ _ ((H.out.tk hs1).plus (by repeat' (first | exact Plus.refl _ | refine Plus.alloc ?_ _ | refine Plus.plus ?_ _ | refine Plus.drew ?_ | refine Plus.drewN ?_ _))) (by omega)).mono ?_); rintro e w1 ⟨rfl, ⟨x2, rfl⟩⟩; rw [HD.out]) | (go_at_call 49; (with_reducible refine (unitAt_i _ _ _ _ d.size _ _ (H.out.plus (by repeat' (first | exact Plus.refl _ | refine Plus.alloc ?_ _ | refine Plus.plus ?_ _ | refine Plus.drew ?_ | refine Plus.drewN ?_ _))) (by omega) (by omega)).mono ?_); rintro e w1 ⟨rfl, rfl⟩; rw [HV.out]) | (go_at_call 49; (with_reducible refine (unitAt_i _ _ _ _ (d.size + 1) _ _ (H.out.plus (by repeat' (first | exact Plus.refl _ | refine Plus.alloc ?_ _ | refine Plus.plus ?_ _ | refine Plus.drew ?_ | refine Plus.drewN ?_ _))) (by omega) (by omega)).mono ?_); rintro e w1 ⟨rfl, rfl⟩; rw [HX.out]) | (go_at_call 50; (with_reducible refine (fault_c _ _).mono ?_); rintro e w1 ⟨rfl, ⟨x3, rfl⟩⟩) | (go_at_call 58; (with_reducible refine (isFra_c v hvb _).mono ?_); rintro e w1 ⟨rfl, rfl⟩; rw [HF.out]) | (go_at_call 35; (with_reducible refine (isLet_c v hvb _).mono ?_); rintro e w1 ⟨rfl, rfl⟩; rw [HL.out]) | (go_at_call 60; (with_reducible refine (parse_c d (by omega) _ (HLai.out.plus (by repeat' (first | exact Plus.refl _ | refine Plus.alloc ?_ _ | refine Plus.plus ?_ _ | refine Plus.drew ?_ | refine Plus.drewN ?_ _)))).mono ?_); rintro e w1 ⟨rfl, ⟨x4, rfl⟩⟩; rw [HP.out]))
  go_returns
  rw [HM.out]
  exact RetTok.num (by repeat' (first | exact Plus.refl _ | refine Plus.alloc ?_ _ | refine Plus.plus ?_ _ | refine Plus.drew ?_ | refine Plus.drewN ?_ _))
set_option maxRecDepth 100000 in
set_option maxHeartbeats 4000000 in
theorem num_p9 (A : Option Addr) (xs : List Nat) (n c v nx : Nat) (d : ByteArray) (w : World) (H : Hid (Ar .u16 65536 w A xs n c)) (hcap : n ≤ c) (HS : Hid (spanL isDig xs = d.size)) (hs1 : d.size ≤ n) (hd0 : 0 < d.size) (HD : Hid (plS (xs.take d.size) = d)) (HV : Hid (uAt xs d.size = v)) (hvb : v < 65536) (HX : Hid (uAt xs (d.size + 1) = nx)) (hb1 : d.size ≤ 1) (d1 : decide ((1 : Int) < d.size) = false) (ev : ((v : Int) == 110) = false) (HF : Hid (isFra v = false)) (z1 : (d.toList == [48]) = false) (HL : Hid (isLet v = false)) (HLai : Hid (Lai w)) (pa : Ans) (HP : Hid (parS d.data.toList = pa)) (pk : pa.ok = false) : Calls Tryd.prog 46 #[.slice A n c] w (RetTok (numM xs) w) := by
  have HM : Hid (numM xs = flt 6) := Lib.hid (by
    have c1 : ¬ (1 < d.size ∧ uAt xs 0 = 48) := by omega
    rw [numM, HS.out, HD.out, HV.out, HX.out]
    rw [if_neg c1]
    rw [if_neg (by simp at ev; omega)]
    rw [HF.out, ← data48, z1]
    rw [if_neg (by simp)]
    rw [HL.out]
    rw [if_neg (by decide), HP.out, pk]
    rfl)
  go_enter Tryd.func46, Tryd.ntmps46
  go_wp2_with (first | (go_at_call 42; (with_reducible refine (span_dig _ _ _ _ _ (H.out.plus (by repeat' (first | exact Plus.refl _ | refine Plus.alloc ?_ _ | refine Plus.plus ?_ _ | refine Plus.drew ?_ | refine Plus.drewN ?_ _)))).mono ?_); rintro e w1 ⟨rfl, rfl⟩; rw [HS.out]) | (go_at_call 56; (with_reducible refine (plain_c _ (xs.take d.size) _ _ _ ((H.out.tk hs1).plus (by repeat' (first | exact Plus.refl _ | refine Plus.alloc ?_ _ | refine Plus.plus ?_ _ | refine Plus.drew ?_ | refine Plus.drewN ?_ _))) (by omega)).mono ?_); rintro e w1 ⟨rfl, ⟨x2, rfl⟩⟩; rw [HD.out]) | (go_at_call 49; (with_reducible refine (unitAt_i _ _ _ _ d.size _ _ (H.out.plus (by repeat' (first | exact Plus.refl _ | refine Plus.alloc ?_ _ | refine Plus.plus ?_ _ | refine Plus.drew ?_ | refine Plus.drewN ?_ _))) (by omega) (by omega)).mono ?_); rintro e w1 ⟨rfl, rfl⟩; rw [HV.out]) | (go_at_call 49; (with_reducible refine (unitAt_i _ _ _ _ (d.size + 1) _ _ (H.out.plus (by repeat' (first | exact Plus.refl _ | refine Plus.alloc ?_ _ | refine Plus.plus ?_ _ | refine Plus.drew ?_ | refine Plus.drewN ?_ _))) (by omega) (by omega)).mono ?_); rintro e w1 ⟨rfl, rfl⟩; rw [HX.out]) | (go_at_call 50; (with_reducible refine (fault_c _ _).mono ?_); rintro e w1 ⟨rfl, ⟨x3, rfl⟩⟩) | (go_at_call 58; (with_reducible refine (isFra_c v hvb _).mono ?_); rintro e w1 ⟨rfl, rfl⟩; rw [HF.out]) | (go_at_call 35; (with_reducible refine (isLet_c v hvb _).mono ?_); rintro e w1 ⟨rfl, rfl⟩; rw [HL.out]) | (go_at_call 60; (with_reducible refine (parse_c d (by omega) _ (HLai.out.plus (by repeat' (first | exact Plus.refl _ | refine Plus.alloc ?_ _ | refine Plus.plus ?_ _ | refine Plus.drew ?_ | refine Plus.drewN ?_ _)))).mono ?_); rintro e w1 ⟨rfl, ⟨x4, rfl⟩⟩; rw [HP.out]))
  go_returns
  rw [HM.out]
  exact RetTok.er (by repeat' (first | exact Plus.refl _ | refine Plus.alloc ?_ _ | refine Plus.plus ?_ _ | refine Plus.drew ?_ | refine Plus.drewN ?_ _))
set_option maxRecDepth 100000 in
set_option maxHeartbeats 4000000 in
theorem num_p10 (A : Option Addr) (xs : List Nat) (n c v nx : Nat) (d : ByteArray) (w : World) (H : Hid (Ar .u16 65536 w A xs n c)) (hcap : n ≤ c) (hn : n ≤ 140737488355328) (HS : Hid (spanL isDig xs = d.size)) (hs1 : d.size ≤ n) (hd0 : 0 < d.size) (HD : Hid (plS (xs.take d.size) = d)) (HV : Hid (uAt xs d.size = v)) (HX : Hid (uAt xs (d.size + 1) = nx)) (hxb : nx < 65536) (H0 : Hid (d[0].toNat = uAt xs 0)) (hb1 : 1 < d.size) (d1 : decide ((1 : Int) < d.size) = true) (e48 : ((d[0].toNat : Int) == 48) = false) (ev : ((v : Int) == 110) = true) : Calls Tryd.prog 46 #[.slice A n c] w (RetTok (numM xs) w) := by
  have HM : Hid (numM xs = bigM d nx) := Lib.hid (by
    have c1 : ¬ (1 < d.size ∧ uAt xs 0 = 48) := by rw [← H0.out]; simp at e48; omega
    rw [numM, HS.out, HD.out, HV.out, HX.out]
    rw [if_neg c1]
    rw [if_pos (by simp at ev; omega)])
  go_enter Tryd.func46, Tryd.ntmps46
  go_wp2_with (first | (go_at_call 42; (with_reducible refine (span_dig _ _ _ _ _ (H.out.plus (by repeat' (first | exact Plus.refl _ | refine Plus.alloc ?_ _ | refine Plus.plus ?_ _ | refine Plus.drew ?_ | refine Plus.drewN ?_ _)))).mono ?_); rintro e w1 ⟨rfl, rfl⟩; rw [HS.out]) | (go_at_call 56; (with_reducible refine (plain_c _ (xs.take d.size) _ _ _ ((H.out.tk hs1).plus (by repeat' (first | exact Plus.refl _ | refine Plus.alloc ?_ _ | refine Plus.plus ?_ _ | refine Plus.drew ?_ | refine Plus.drewN ?_ _))) (by omega)).mono ?_); rintro e w1 ⟨rfl, ⟨x2, rfl⟩⟩; rw [HD.out]) | (go_at_call 49; (with_reducible refine (unitAt_i _ _ _ _ d.size _ _ (H.out.plus (by repeat' (first | exact Plus.refl _ | refine Plus.alloc ?_ _ | refine Plus.plus ?_ _ | refine Plus.drew ?_ | refine Plus.drewN ?_ _))) (by omega) (by omega)).mono ?_); rintro e w1 ⟨rfl, rfl⟩; rw [HV.out]) | (go_at_call 49; (with_reducible refine (unitAt_i _ _ _ _ (d.size + 1) _ _ (H.out.plus (by repeat' (first | exact Plus.refl _ | refine Plus.alloc ?_ _ | refine Plus.plus ?_ _ | refine Plus.drew ?_ | refine Plus.drewN ?_ _))) (by omega) (by omega)).mono ?_); rintro e w1 ⟨rfl, rfl⟩; rw [HX.out]) | (go_at_call 50; (with_reducible refine (fault_c _ _).mono ?_); rintro e w1 ⟨rfl, ⟨x3, rfl⟩⟩) | (go_at_call 57; (with_reducible refine (bigt_c d nx hxb (by omega) _).mono ?_); rintro e w1 ⟨As, cs, Am, cm, rfl, hM, ⟨x5, rfl⟩⟩; have HMM := Lib.hid hM; clear hM; unfold tkV))
  go_returns
  rw [HM.out]
  refine ⟨As, cs, Am, cm, rfl, TkM.exc (b := w.heap.size) HMM.out ?ze ?zn ?zm, ?zp⟩
  case ze => repeat' (first | exact Exc.base _ _ _ | refine Exc.alloc ?_ _ | refine Exc.plus ?_ _ | refine Exc.drew ?_ | refine Exc.drewN ?_ _)
  case zn => exact noInt_of (C := #[.int .i64 0, .string ⟨#[]⟩, .slice none 0 0, .int .i64 0, .int .i64 0, .bool false, .slice none 0 0, .int .i64 0, .bool false]) (fun i => by simp only [go_sem]) rfl
  case zm => exact noInt_of (C := #[.int .i64 0, .string ⟨#[]⟩, .slice none 0 0, .int .i64 0, .int .i64 0, .bool false, .slice none 0 0, .int .i64 0, .bool false]) (fun i => by simp only [go_sem]) rfl
  case zp => repeat' (first | exact Plus.refl _ | refine Plus.alloc ?_ _ | refine Plus.plus ?_ _ | refine Plus.drew ?_ | refine Plus.drewN ?_ _)
set_option maxRecDepth 100000 in
set_option maxHeartbeats 4000000 in
theorem num_p11 (A : Option Addr) (xs : List Nat) (n c v nx : Nat) (d : ByteArray) (w : World) (H : Hid (Ar .u16 65536 w A xs n c)) (hcap : n ≤ c) (hn : n ≤ 140737488355328) (HS : Hid (spanL isDig xs = d.size)) (hs1 : d.size ≤ n) (hd0 : 0 < d.size) (HD : Hid (plS (xs.take d.size) = d)) (HV : Hid (uAt xs d.size = v)) (hvb : v < 65536) (HX : Hid (uAt xs (d.size + 1) = nx)) (H0 : Hid (d[0].toNat = uAt xs 0)) (hb1 : 1 < d.size) (d1 : decide ((1 : Int) < d.size) = true) (e48 : ((d[0].toNat : Int) == 48) = false) (ev : ((v : Int) == 110) = false) (HF : Hid (isFra v = true)) : Calls Tryd.prog 46 #[.slice A n c] w (RetTok (numM xs) w) := by
  have HM : Hid (numM xs = flt 6) := Lib.hid (by
    have c1 : ¬ (1 < d.size ∧ uAt xs 0 = 48) := by rw [← H0.out]; simp at e48; omega
    rw [numM, HS.out, HD.out, HV.out, HX.out]
    rw [if_neg c1]
    rw [if_neg (by simp at ev; omega)]
    rw [HF.out]; rfl)
  go_enter Tryd.func46, Tryd.ntmps46
  go_wp2_with (first | (go_at_call 42; (with_reducible refine (span_dig _ _ _ _ _ (H.out.plus (by repeat' (first | exact Plus.refl _ | refine Plus.alloc ?_ _ | refine Plus.plus ?_ _ | refine Plus.drew ?_ | refine Plus.drewN ?_ _)))).mono ?_); rintro e w1 ⟨rfl, rfl⟩; rw [HS.out]) | (go_at_call 56; (with_reducible refine (plain_c _ (xs.take d.size) _ _ _ ((H.out.tk hs1).plus (by repeat' (first | exact Plus.refl _ | refine Plus.alloc ?_ _ | refine Plus.plus ?_ _ | refine Plus.drew ?_ | refine Plus.drewN ?_ _))) (by omega)).mono ?_); rintro e w1 ⟨rfl, ⟨x2, rfl⟩⟩; rw [HD.out]) | (go_at_call 49; (with_reducible refine (unitAt_i _ _ _ _ d.size _ _ (H.out.plus (by repeat' (first | exact Plus.refl _ | refine Plus.alloc ?_ _ | refine Plus.plus ?_ _ | refine Plus.drew ?_ | refine Plus.drewN ?_ _))) (by omega) (by omega)).mono ?_); rintro e w1 ⟨rfl, rfl⟩; rw [HV.out]) | (go_at_call 49; (with_reducible refine (unitAt_i _ _ _ _ (d.size + 1) _ _ (H.out.plus (by repeat' (first | exact Plus.refl _ | refine Plus.alloc ?_ _ | refine Plus.plus ?_ _ | refine Plus.drew ?_ | refine Plus.drewN ?_ _))) (by omega) (by omega)).mono ?_); rintro e w1 ⟨rfl, rfl⟩; rw [HX.out]) | (go_at_call 50; (with_reducible refine (fault_c _ _).mono ?_); rintro e w1 ⟨rfl, ⟨x3, rfl⟩⟩) | (go_at_call 58; (with_reducible refine (isFra_c v hvb _).mono ?_); rintro e w1 ⟨rfl, rfl⟩; rw [HF.out]))
  go_returns
  rw [HM.out]
  exact RetTok.er (by repeat' (first | exact Plus.refl _ | refine Plus.alloc ?_ _ | refine Plus.plus ?_ _ | refine Plus.drew ?_ | refine Plus.drewN ?_ _))
set_option maxRecDepth 100000 in
set_option maxHeartbeats 4000000 in
theorem num_p12 (A : Option Addr) (xs : List Nat) (n c v nx : Nat) (d : ByteArray) (w : World) (H : Hid (Ar .u16 65536 w A xs n c)) (hcap : n ≤ c) (hn : n ≤ 140737488355328) (HS : Hid (spanL isDig xs = d.size)) (hs1 : d.size ≤ n) (hd0 : 0 < d.size) (HD : Hid (plS (xs.take d.size) = d)) (HV : Hid (uAt xs d.size = v)) (hvb : v < 65536) (HX : Hid (uAt xs (d.size + 1) = nx)) (H0 : Hid (d[0].toNat = uAt xs 0)) (hb1 : 1 < d.size) (d1 : decide ((1 : Int) < d.size) = true) (e48 : ((d[0].toNat : Int) == 48) = false) (ev : ((v : Int) == 110) = false) (HF : Hid (isFra v = false)) (z1 : (d.toList == [48]) = false) (HL : Hid (isLet v = true)) : Calls Tryd.prog 46 #[.slice A n c] w (RetTok (numM xs) w) := by
  have HM : Hid (numM xs = flt 5) := Lib.hid (by
    have c1 : ¬ (1 < d.size ∧ uAt xs 0 = 48) := by rw [← H0.out]; simp at e48; omega
    rw [numM, HS.out, HD.out, HV.out, HX.out]
    rw [if_neg c1]
    rw [if_neg (by simp at ev; omega)]
    rw [HF.out, ← data48, z1]
    rw [if_neg (by simp)]
    rw [HL.out]
    rfl)
  go_enter Tryd.func46, Tryd.ntmps46
  go_wp2_with (first | (go_at_call 42; (with_reducible refine (span_dig _ _ _ _ _ (H.out.plus (by repeat' (first | exact Plus.refl _ | refine Plus.alloc ?_ _ | refine Plus.plus ?_ _ | refine Plus.drew ?_ | refine Plus.drewN ?_ _)))).mono ?_); rintro e w1 ⟨rfl, rfl⟩; rw [HS.out]) | (go_at_call 56; (with_reducible refine (plain_c _ (xs.take d.size) _ _ _ ((H.out.tk hs1).plus (by repeat' (first | exact Plus.refl _ | refine Plus.alloc ?_ _ | refine Plus.plus ?_ _ | refine Plus.drew ?_ | refine Plus.drewN ?_ _))) (by omega)).mono ?_); rintro e w1 ⟨rfl, ⟨x2, rfl⟩⟩; rw [HD.out]) | (go_at_call 49; (with_reducible refine (unitAt_i _ _ _ _ d.size _ _ (H.out.plus (by repeat' (first | exact Plus.refl _ | refine Plus.alloc ?_ _ | refine Plus.plus ?_ _ | refine Plus.drew ?_ | refine Plus.drewN ?_ _))) (by omega) (by omega)).mono ?_); rintro e w1 ⟨rfl, rfl⟩; rw [HV.out]) | (go_at_call 49; (with_reducible refine (unitAt_i _ _ _ _ (d.size + 1) _ _ (H.out.plus (by repeat' (first | exact Plus.refl _ | refine Plus.alloc ?_ _ | refine Plus.plus ?_ _ | refine Plus.drew ?_ | refine Plus.drewN ?_ _))) (by omega) (by omega)).mono ?_); rintro e w1 ⟨rfl, rfl⟩; rw [HX.out]) | (go_at_call 50; (with_reducible refine (fault_c _ _).mono ?_); rintro e w1 ⟨rfl, ⟨x3, rfl⟩⟩) | (go_at_call 58; (with_reducible refine (isFra_c v hvb _).mono ?_); rintro e w1 ⟨rfl, rfl⟩; rw [HF.out]) | (go_at_call 35; (with_reducible refine (isLet_c v hvb _).mono ?_); rintro e w1 ⟨rfl, rfl⟩; rw [HL.out]))
  go_returns
  rw [HM.out]
  exact RetTok.er (by repeat' (first | exact Plus.refl _ | refine Plus.alloc ?_ _ | refine Plus.plus ?_ _ | refine Plus.drew ?_ | refine Plus.drewN ?_ _))
set_option maxRecDepth 100000 in
set_option maxHeartbeats 4000000 in
theorem num_p13 (A : Option Addr) (xs : List Nat) (n c v nx : Nat) (d : ByteArray) (w : World) (H : Hid (Ar .u16 65536 w A xs n c)) (hcap : n ≤ c) (hn : n ≤ 140737488355328) (HS : Hid (spanL isDig xs = d.size)) (hs1 : d.size ≤ n) (hd0 : 0 < d.size) (HD : Hid (plS (xs.take d.size) = d)) (HV : Hid (uAt xs d.size = v)) (hvb : v < 65536) (HX : Hid (uAt xs (d.size + 1) = nx)) (H0 : Hid (d[0].toNat = uAt xs 0)) (hb1 : 1 < d.size) (d1 : decide ((1 : Int) < d.size) = true) (e48 : ((d[0].toNat : Int) == 48) = false) (ev : ((v : Int) == 110) = false) (HF : Hid (isFra v = false)) (z1 : (d.toList == [48]) = false) (HL : Hid (isLet v = false)) (HLai : Hid (Lai w)) (pa : Ans) (HP : Hid (parS d.data.toList = pa)) (pk : pa.ok = true) : Calls Tryd.prog 46 #[.slice A n c] w (RetTok (numM xs) w) := by
  have HM : Hid (numM xs = ⟨{ tk0 with k := 2, nk := pa.k, n := pa.n }, d.size, 0⟩) := Lib.hid (by
    have c1 : ¬ (1 < d.size ∧ uAt xs 0 = 48) := by rw [← H0.out]; simp at e48; omega
    rw [numM, HS.out, HD.out, HV.out, HX.out]
    rw [if_neg c1]
    rw [if_neg (by simp at ev; omega)]
    rw [HF.out, ← data48, z1]
    rw [if_neg (by simp)]
    rw [HL.out]
    rw [if_neg (by decide), HP.out, pk]
    rfl)
  go_enter Tryd.func46, Tryd.ntmps46
  go_wp2_with (first | (go_at_call 42; (with_reducible refine (span_dig _ _ _ _ _ (H.out.plus (by repeat' (first | exact Plus.refl _ | refine Plus.alloc ?_ _ | refine Plus.plus ?_ _ | refine Plus.drew ?_ | refine Plus.drewN ?_ _)))).mono ?_); rintro e w1 ⟨rfl, rfl⟩; rw [HS.out]) | (go_at_call 56; (with_reducible refine (plain_c _ (xs.take d.size) _ _ _ ((H.out.tk hs1).plus (by repeat' (first | exact Plus.refl _ | refine Plus.alloc ?_ _ | refine Plus.plus ?_ _ | refine Plus.drew ?_ | refine Plus.drewN ?_ _))) (by omega)).mono ?_); rintro e w1 ⟨rfl, ⟨x2, rfl⟩⟩; rw [HD.out]) | (go_at_call 49; (with_reducible refine (unitAt_i _ _ _ _ d.size _ _ (H.out.plus (by repeat' (first | exact Plus.refl _ | refine Plus.alloc ?_ _ | refine Plus.plus ?_ _ | refine Plus.drew ?_ | refine Plus.drewN ?_ _))) (by omega) (by omega)).mono ?_); rintro e w1 ⟨rfl, rfl⟩; rw [HV.out]) | (go_at_call 49; (with_reducible refine (unitAt_i _ _ _ _ (d.size + 1) _ _ (H.out.plus (by repeat' (first | exact Plus.refl _ | refine Plus.alloc ?_ _ | refine Plus.plus ?_ _ | refine Plus.drew ?_ | refine Plus.drewN ?_ _))) (by omega) (by omega)).mono ?_); rintro e w1 ⟨rfl, rfl⟩; rw [HX.out]) | (go_at_call 50; (with_reducible refine (fault_c _ _).mono ?_); rintro e w1 ⟨rfl, ⟨x3, rfl⟩⟩) | (go_at_call 58; (with_reducible refine (isFra_c v hvb _).mono ?_); rintro e w1 ⟨rfl, rfl⟩; rw [HF.out]) | (go_at_call 35; (with_reducible refine (isLet_c v hvb _).mono ?_); rintro e w1 ⟨rfl, rfl⟩; rw [HL.out]) | (go_at_call 60; (with_reducible refine (parse_c d (by omega) _ (HLai.out.plus (by repeat' (first | exact Plus.refl _ | refine Plus.alloc ?_ _ | refine Plus.plus ?_ _ | refine Plus.drew ?_ | refine Plus.drewN ?_ _)))).mono ?_); rintro e w1 ⟨rfl, ⟨x4, rfl⟩⟩; rw [HP.out]))
  go_returns
  rw [HM.out]
  exact RetTok.num (by repeat' (first | exact Plus.refl _ | refine Plus.alloc ?_ _ | refine Plus.plus ?_ _ | refine Plus.drew ?_ | refine Plus.drewN ?_ _))
set_option maxRecDepth 100000 in
set_option maxHeartbeats 4000000 in
theorem num_p14 (A : Option Addr) (xs : List Nat) (n c v nx : Nat) (d : ByteArray) (w : World) (H : Hid (Ar .u16 65536 w A xs n c)) (hcap : n ≤ c) (hn : n ≤ 140737488355328) (HS : Hid (spanL isDig xs = d.size)) (hs1 : d.size ≤ n) (hd0 : 0 < d.size) (HD : Hid (plS (xs.take d.size) = d)) (HV : Hid (uAt xs d.size = v)) (hvb : v < 65536) (HX : Hid (uAt xs (d.size + 1) = nx)) (H0 : Hid (d[0].toNat = uAt xs 0)) (hb1 : 1 < d.size) (d1 : decide ((1 : Int) < d.size) = true) (e48 : ((d[0].toNat : Int) == 48) = false) (ev : ((v : Int) == 110) = false) (HF : Hid (isFra v = false)) (z1 : (d.toList == [48]) = false) (HL : Hid (isLet v = false)) (HLai : Hid (Lai w)) (pa : Ans) (HP : Hid (parS d.data.toList = pa)) (pk : pa.ok = false) : Calls Tryd.prog 46 #[.slice A n c] w (RetTok (numM xs) w) := by
  have HM : Hid (numM xs = flt 6) := Lib.hid (by
    have c1 : ¬ (1 < d.size ∧ uAt xs 0 = 48) := by rw [← H0.out]; simp at e48; omega
    rw [numM, HS.out, HD.out, HV.out, HX.out]
    rw [if_neg c1]
    rw [if_neg (by simp at ev; omega)]
    rw [HF.out, ← data48, z1]
    rw [if_neg (by simp)]
    rw [HL.out]
    rw [if_neg (by decide), HP.out, pk]
    rfl)
  go_enter Tryd.func46, Tryd.ntmps46
  go_wp2_with (first | (go_at_call 42; (with_reducible refine (span_dig _ _ _ _ _ (H.out.plus (by repeat' (first | exact Plus.refl _ | refine Plus.alloc ?_ _ | refine Plus.plus ?_ _ | refine Plus.drew ?_ | refine Plus.drewN ?_ _)))).mono ?_); rintro e w1 ⟨rfl, rfl⟩; rw [HS.out]) | (go_at_call 56; (with_reducible refine (plain_c _ (xs.take d.size) _ _ _ ((H.out.tk hs1).plus (by repeat' (first | exact Plus.refl _ | refine Plus.alloc ?_ _ | refine Plus.plus ?_ _ | refine Plus.drew ?_ | refine Plus.drewN ?_ _))) (by omega)).mono ?_); rintro e w1 ⟨rfl, ⟨x2, rfl⟩⟩; rw [HD.out]) | (go_at_call 49; (with_reducible refine (unitAt_i _ _ _ _ d.size _ _ (H.out.plus (by repeat' (first | exact Plus.refl _ | refine Plus.alloc ?_ _ | refine Plus.plus ?_ _ | refine Plus.drew ?_ | refine Plus.drewN ?_ _))) (by omega) (by omega)).mono ?_); rintro e w1 ⟨rfl, rfl⟩; rw [HV.out]) | (go_at_call 49; (with_reducible refine (unitAt_i _ _ _ _ (d.size + 1) _ _ (H.out.plus (by repeat' (first | exact Plus.refl _ | refine Plus.alloc ?_ _ | refine Plus.plus ?_ _ | refine Plus.drew ?_ | refine Plus.drewN ?_ _))) (by omega) (by omega)).mono ?_); rintro e w1 ⟨rfl, rfl⟩; rw [HX.out]) | (go_at_call 50; (with_reducible refine (fault_c _ _).mono ?_); rintro e w1 ⟨rfl, ⟨x3, rfl⟩⟩) | (go_at_call 58; (with_reducible refine (isFra_c v hvb _).mono ?_); rintro e w1 ⟨rfl, rfl⟩; rw [HF.out]) | (go_at_call 35; (with_reducible refine (isLet_c v hvb _).mono ?_); rintro e w1 ⟨rfl, rfl⟩; rw [HL.out]) | (go_at_call 60; (with_reducible refine (parse_c d (by omega) _ (HLai.out.plus (by repeat' (first | exact Plus.refl _ | refine Plus.alloc ?_ _ | refine Plus.plus ?_ _ | refine Plus.drew ?_ | refine Plus.drewN ?_ _)))).mono ?_); rintro e w1 ⟨rfl, ⟨x4, rfl⟩⟩; rw [HP.out]))
  go_returns
  rw [HM.out]
  exact RetTok.er (by repeat' (first | exact Plus.refl _ | refine Plus.alloc ?_ _ | refine Plus.plus ?_ _ | refine Plus.drew ?_ | refine Plus.drewN ?_ _))
theorem num_c (A : Option Addr) (xs : List Nat) (n c : Nat) (w : World) (h : Ar .u16 65536 w A xs n c) (hn : n ≤ 140737488355328) (hL : Lai w) (hd : isDig (uAt xs 0) = true) :
    Calls Tryd.prog 46 #[.slice A n c] w (RetTok (numM xs) w) := by
  have h0 : 0 < xs.length := by
    cases xs with
    | nil => simp [uAt, isDig] at hd
    | cons x r => simp
  have hS0 : 0 < spanL isDig xs := by
    cases xs with
    | nil => simp at h0
    | cons x r => unfold spanL; rw [if_pos (show isDig x = true from hd)]; omega
  have hsl := span_le isDig xs
  obtain ⟨d, hD⟩ : ∃ d, plS (xs.take (spanL isDig xs)) = d := ⟨_, rfl⟩
  have hlow := dig_low (xs := xs)
  have hdb : byts (xs.take (spanL isDig xs)) = d := by rw [← hD]; unfold plS; rw [if_pos hlow]
  have hsz : d.size = spanL isDig xs := by rw [← hdb, byts_size, List.length_take]; omega
  have hd0 : 0 < d.size := by omega
  have hu0 : d[0].toNat = uAt xs 0 := by
    have e := byts_get (xs := xs.take (spanL isDig xs)) (i := 0) (by rw [byts_size, List.length_take]; omega) (low_B hlow)
    rw [uAt_take hS0] at e
    rw [← e]
    congr 1
    subst hdb
    rfl
  rw [← hsz] at hD hsl
  have hlen := h.len
  have H := Lib.hid h
  have HS := Lib.hid hsz.symm
  have HDD := Lib.hid hD
  have H0 := Lib.hid hu0
  have hs1 : d.size ≤ n := by omega
  have hvb := uAt_bd h d.size
  have hxb := uAt_bd h (d.size + 1)
  have HP : Hid (parS d.data.toList = parS d.data.toList) := Lib.hid rfl
  have HLai := Lib.hid hL
  have hcap := h.cap
  have bf : ∀ b : Bool, ¬ b = true → b = false := fun b q => by simpa using q
  by_cases s : 1 < d.size
  · have d1 : decide ((1 : Int) < d.size) = true := by simp; omega
    have z1 : (d.toList == [48]) = false := by
      rw [data48]; apply decide_eq_false; intro e; have := size_one e; omega
    by_cases e : ((d[0].toNat : Int) == 48) = true
    · exact num_p0 A xs n c _ _ d w H hcap hn HS hs1 hd0 HDD (Lib.hid rfl) (Lib.hid rfl) H0  s d1 e
    have e := bf _ e
    by_cases ev : ((uAt xs d.size : Int) == 110) = true
    · exact num_p10 A xs n c _ _ d w H hcap hn HS hs1 hd0 HDD (Lib.hid rfl) (Lib.hid rfl) hxb H0  s d1 e ev
    · have ev := bf _ ev
      by_cases ef : isFra (uAt xs d.size) = true
      · exact num_p11 A xs n c _ _ d w H hcap hn HS hs1 hd0 HDD (Lib.hid rfl) hvb (Lib.hid rfl) H0  s d1 e ev (Lib.hid ef)
      · have ef := bf _ ef
        by_cases el : isLet (uAt xs d.size) = true
        · exact num_p12 A xs n c _ _ d w H hcap hn HS hs1 hd0 HDD (Lib.hid rfl) hvb (Lib.hid rfl) H0  s d1 e ev (Lib.hid ef) z1 (Lib.hid el)
        · have el := bf _ el
          by_cases pk : (parS d.data.toList).ok = true
          · exact num_p13 A xs n c _ _ d w H hcap hn HS hs1 hd0 HDD (Lib.hid rfl) hvb (Lib.hid rfl) H0  s d1 e ev (Lib.hid ef) z1 (Lib.hid el) HLai _ HP pk
          · have pk := bf _ pk
            exact num_p14 A xs n c _ _ d w H hcap hn HS hs1 hd0 HDD (Lib.hid rfl) hvb (Lib.hid rfl) H0  s d1 e ev (Lib.hid ef) z1 (Lib.hid el) HLai _ HP pk
  · have s1 : d.size ≤ 1 := by omega
    have d1 : decide ((1 : Int) < d.size) = false := by simp; omega
    by_cases ev : ((uAt xs d.size : Int) == 110) = true
    · exact num_p1 A xs n c _ _ d w H hcap HS hs1 hd0 HDD (Lib.hid rfl) (Lib.hid rfl) hxb  s1 d1 ev
    · have ev := bf _ ev
      by_cases ef : isFra (uAt xs d.size) = true
      · exact num_p2 A xs n c _ _ d w H hcap HS hs1 hd0 HDD (Lib.hid rfl) hvb (Lib.hid rfl)  s1 d1 ev (Lib.hid ef)
      · have ef := bf _ ef
        by_cases z1 : (d.toList == [48]) = true
        · by_cases er : isRad (uAt xs d.size) = true
          · exact num_p3 A xs n c _ _ d w H hcap HS hs1 hd0 HDD (Lib.hid rfl) hvb (Lib.hid rfl)  s1 d1 ev (Lib.hid ef) z1 (Lib.hid er)
          · have er := bf _ er
            by_cases el : isLet (uAt xs d.size) = true
            · exact num_p4 A xs n c _ _ d w H hcap HS hs1 hd0 HDD (Lib.hid rfl) hvb (Lib.hid rfl)  s1 d1 ev (Lib.hid ef) z1 (Lib.hid er) (Lib.hid el)
            · have el := bf _ el
              by_cases pk : (parS d.data.toList).ok = true
              · exact num_p5 A xs n c _ _ d w H hcap HS hs1 hd0 HDD (Lib.hid rfl) hvb (Lib.hid rfl)  s1 d1 ev (Lib.hid ef) z1 (Lib.hid er) (Lib.hid el) HLai _ HP pk
              · have pk := bf _ pk
                exact num_p6 A xs n c _ _ d w H hcap HS hs1 hd0 HDD (Lib.hid rfl) hvb (Lib.hid rfl)  s1 d1 ev (Lib.hid ef) z1 (Lib.hid er) (Lib.hid el) HLai _ HP pk
        · have z1 := bf _ z1
          by_cases el : isLet (uAt xs d.size) = true
          · exact num_p7 A xs n c _ _ d w H hcap HS hs1 hd0 HDD (Lib.hid rfl) hvb (Lib.hid rfl)  s1 d1 ev (Lib.hid ef) z1 (Lib.hid el)
          · have el := bf _ el
            by_cases pk : (parS d.data.toList).ok = true
            · exact num_p8 A xs n c _ _ d w H hcap HS hs1 hd0 HDD (Lib.hid rfl) hvb (Lib.hid rfl)  s1 d1 ev (Lib.hid ef) z1 (Lib.hid el) HLai _ HP pk
            · have pk := bf _ pk
              exact num_p9 A xs n c _ _ d w H hcap HS hs1 hd0 HDD (Lib.hid rfl) hvb (Lib.hid rfl)  s1 d1 ev (Lib.hid ef) z1 (Lib.hid el) HLai _ HP pk
end Go.Proofs.YtaigkjffglbknaaDoor
