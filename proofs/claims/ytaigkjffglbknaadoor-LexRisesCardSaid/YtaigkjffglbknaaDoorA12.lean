/- Contracts: escapes. -/
import Derived.Test.YtaigkjffglbknaaDoorA11
import Derived.Test.YtaigkjffglbknaaDoorA10
namespace Go.Proofs.YtaigkjffglbknaaDoor
open Go.RowKit

theorem cod_k (A : Option Addr) (xs : List Nat) (n c d : Nat) (z : Int) (w : World) (H : Hid (Ar .u16 65536 w A xs n c)) (hd : d ≤ 4) (hz : z = d) :
    Calls Tryd.prog 69 #[.slice A n c, .int .i64 z] w fun e w' => e = .returned (.tuple #[.int .u16 (codE xs d).v, .int .i64 (codE xs d).n, .int .i64 (codE xs d).e]) ∧ w = w' := by
  subst hz
  exact cod_c A xs n c d w H hd
set_option maxRecDepth 100000 in
set_option maxHeartbeats 4000000 in
theorem esc_p0 (A : Option Addr) (xs : List Nat) (n c v : Nat) (w : World) (H : Hid (Ar .u16 65536 w A xs n c)) (HV : Hid (uAt xs 0 = v)) (h0 : n = 0) (HN : Hid (xs = [])) : Calls Tryd.prog 61 #[.slice A n c] w fun e w' => e = .returned (.tuple #[.int .u16 (escM xs).v, .int .i64 (escM xs).n, .int .i64 (escM xs).e]) ∧ Plus w w' := by
  have HM : Hid (escM xs = (⟨0, 0, 5⟩ : Es)) := Lib.hid (by
    rw [escM, if_pos HN.out])
  subst h0
  go_enter Tryd.func61, Tryd.ntmps61
  go_wp2_with (first | (go_at_call 49; (with_reducible refine (unitAt_j _ _ _ _ 0 _ _ (H.out.plus (by repeat' (first | exact Plus.refl _ | refine Plus.alloc ?_ _ | refine Plus.plus ?_ _ | refine Plus.drew ?_ | refine Plus.drewN ?_ _))) (by omega) (by omega)).mono ?_); rintro e w1 ⟨rfl, rfl⟩; rw [HV.out]))
  go_ret3
  exact ⟨by rw [HM.out]; rfl, (by repeat' (first | exact Plus.refl _ | refine Plus.alloc ?_ _ | refine Plus.plus ?_ _ | refine Plus.drew ?_ | refine Plus.drewN ?_ _))⟩
set_option maxRecDepth 100000 in
set_option maxHeartbeats 4000000 in
theorem esc_p1 (A : Option Addr) (xs : List Nat) (n c v : Nat) (w : World) (H : Hid (Ar .u16 65536 w A xs n c)) (HV : Hid (uAt xs 0 = v)) (hvb : v < 65536) (h0 : 0 < n) (HN : Hid (¬ xs = [])) (HE : Hid (isEnd v = true)) : Calls Tryd.prog 61 #[.slice A n c] w fun e w' => e = .returned (.tuple #[.int .u16 (escM xs).v, .int .i64 (escM xs).n, .int .i64 (escM xs).e]) ∧ Plus w w' := by
  have HM : Hid (escM xs = (⟨0, 0, 6⟩ : Es)) := Lib.hid (by
    rw [escM, if_neg HN.out, HV.out]
    rw [HE.out]
    rfl)
  go_enter Tryd.func61, Tryd.ntmps61
  go_wp2_with (first | (go_at_call 49; (with_reducible refine (unitAt_j _ _ _ _ 0 _ _ (H.out.plus (by repeat' (first | exact Plus.refl _ | refine Plus.alloc ?_ _ | refine Plus.plus ?_ _ | refine Plus.drew ?_ | refine Plus.drewN ?_ _))) (by omega) (by omega)).mono ?_); rintro e w1 ⟨rfl, rfl⟩; rw [HV.out]) | (go_at_call 39; (with_reducible refine (isEnd_c v hvb _).mono ?_); rintro e w1 ⟨rfl, rfl⟩; rw [HE.out]))
  go_ret3
  exact ⟨by rw [HM.out]; rfl, (by repeat' (first | exact Plus.refl _ | refine Plus.alloc ?_ _ | refine Plus.plus ?_ _ | refine Plus.drew ?_ | refine Plus.drewN ?_ _))⟩
set_option maxRecDepth 100000 in
set_option maxHeartbeats 4000000 in
theorem esc_p2 (A : Option Addr) (xs : List Nat) (n c v : Nat) (w : World) (H : Hid (Ar .u16 65536 w A xs n c)) (HV : Hid (uAt xs 0 = v)) (hvb : v < 65536) (h0 : 0 < n) (HN : Hid (¬ xs = [])) (HE : Hid (isEnd v = false)) (HS : Hid (isSep v = true)) : Calls Tryd.prog 61 #[.slice A n c] w fun e w' => e = .returned (.tuple #[.int .u16 (escM xs).v, .int .i64 (escM xs).n, .int .i64 (escM xs).e]) ∧ Plus w w' := by
  have HM : Hid (escM xs = (⟨0, 0, 6⟩ : Es)) := Lib.hid (by
    rw [escM, if_neg HN.out, HV.out]
    rw [HE.out, HS.out]
    rfl)
  go_enter Tryd.func61, Tryd.ntmps61
  go_wp2_with (first | (go_at_call 49; (with_reducible refine (unitAt_j _ _ _ _ 0 _ _ (H.out.plus (by repeat' (first | exact Plus.refl _ | refine Plus.alloc ?_ _ | refine Plus.plus ?_ _ | refine Plus.drew ?_ | refine Plus.drewN ?_ _))) (by omega) (by omega)).mono ?_); rintro e w1 ⟨rfl, rfl⟩; rw [HV.out]) | (go_at_call 39; (with_reducible refine (isEnd_c v hvb _).mono ?_); rintro e w1 ⟨rfl, rfl⟩; rw [HE.out]) | (go_at_call 55; (with_reducible refine (isSep_c v hvb _).mono ?_); rintro e w1 ⟨rfl, rfl⟩; rw [HS.out]))
  go_ret3
  exact ⟨by rw [HM.out]; rfl, (by repeat' (first | exact Plus.refl _ | refine Plus.alloc ?_ _ | refine Plus.plus ?_ _ | refine Plus.drew ?_ | refine Plus.drewN ?_ _))⟩
set_option maxRecDepth 100000 in
set_option maxHeartbeats 4000000 in
theorem esc_p3 (A : Option Addr) (xs : List Nat) (n c v : Nat) (w : World) (H : Hid (Ar .u16 65536 w A xs n c)) (HV : Hid (uAt xs 0 = v)) (hvb : v < 65536) (h0 : 0 < n) (HN : Hid (¬ xs = [])) (HE : Hid (isEnd v = false)) (HS : Hid (isSep v = false)) (HB : Hid (begB xs (nats ⟨#[117, 123]⟩) = true)) : Calls Tryd.prog 61 #[.slice A n c] w fun e w' => e = .returned (.tuple #[.int .u16 (escM xs).v, .int .i64 (escM xs).n, .int .i64 (escM xs).e]) ∧ Plus w w' := by
  have HM : Hid (escM xs = (⟨0, 0, 6⟩ : Es)) := Lib.hid (by
    have hb3 : begB xs [117, 123] = true := by have q := HB.out; rw [nats_lit] at q; exact q
    rw [escM, if_neg HN.out, HV.out]
    rw [HE.out, HS.out, hb3]
    rfl)
  go_enter Tryd.func61, Tryd.ntmps61
  go_wp2_with (first | (go_at_call 49; (with_reducible refine (unitAt_j _ _ _ _ 0 _ _ (H.out.plus (by repeat' (first | exact Plus.refl _ | refine Plus.alloc ?_ _ | refine Plus.plus ?_ _ | refine Plus.drew ?_ | refine Plus.drewN ?_ _))) (by omega) (by omega)).mono ?_); rintro e w1 ⟨rfl, rfl⟩; rw [HV.out]) | (go_at_call 39; (with_reducible refine (isEnd_c v hvb _).mono ?_); rintro e w1 ⟨rfl, rfl⟩; rw [HE.out]) | (go_at_call 55; (with_reducible refine (isSep_c v hvb _).mono ?_); rintro e w1 ⟨rfl, rfl⟩; rw [HS.out]) | (go_at_call 40; (with_reducible refine (begins_c _ _ _ _ ⟨#[117, 123]⟩ _ (H.out.plus (by repeat' (first | exact Plus.refl _ | refine Plus.alloc ?_ _ | refine Plus.plus ?_ _ | refine Plus.drew ?_ | refine Plus.drewN ?_ _))) (by decide)).mono ?_); rintro e w1 ⟨rfl, ⟨x1, rfl⟩⟩; rw [HB.out]))
  go_ret3
  exact ⟨by rw [HM.out]; rfl, (by repeat' (first | exact Plus.refl _ | refine Plus.alloc ?_ _ | refine Plus.plus ?_ _ | refine Plus.drew ?_ | refine Plus.drewN ?_ _))⟩
set_option maxRecDepth 100000 in
set_option maxHeartbeats 4000000 in
theorem esc_p4 (A : Option Addr) (xs : List Nat) (n c v : Nat) (w : World) (H : Hid (Ar .u16 65536 w A xs n c)) (HV : Hid (uAt xs 0 = v)) (hvb : v < 65536) (h0 : 0 < n) (HN : Hid (¬ xs = [])) (HE : Hid (isEnd v = false)) (HS : Hid (isSep v = false)) (HB : Hid (begB xs (nats ⟨#[117, 123]⟩) = false)) (d120 : ((v : Int) == 120) = true) : Calls Tryd.prog 61 #[.slice A n c] w fun e w' => e = .returned (.tuple #[.int .u16 (escM xs).v, .int .i64 (escM xs).n, .int .i64 (escM xs).e]) ∧ Plus w w' := by
  have HM : Hid (escM xs = codE xs 2) := Lib.hid (by
    have hb3 : begB xs [117, 123] = false := by have q := HB.out; rw [nats_lit] at q; exact q
    rw [escM, if_neg HN.out, HV.out]
    rw [HE.out, HS.out, hb3]
    rw [if_neg (by decide)]
    rw [if_pos (by simp at d120; omega)])
  go_enter Tryd.func61, Tryd.ntmps61
  go_wp2_with (first | (go_at_call 49; (with_reducible refine (unitAt_j _ _ _ _ 0 _ _ (H.out.plus (by repeat' (first | exact Plus.refl _ | refine Plus.alloc ?_ _ | refine Plus.plus ?_ _ | refine Plus.drew ?_ | refine Plus.drewN ?_ _))) (by omega) (by omega)).mono ?_); rintro e w1 ⟨rfl, rfl⟩; rw [HV.out]) | (go_at_call 39; (with_reducible refine (isEnd_c v hvb _).mono ?_); rintro e w1 ⟨rfl, rfl⟩; rw [HE.out]) | (go_at_call 55; (with_reducible refine (isSep_c v hvb _).mono ?_); rintro e w1 ⟨rfl, rfl⟩; rw [HS.out]) | (go_at_call 40; (with_reducible refine (begins_c _ _ _ _ ⟨#[117, 123]⟩ _ (H.out.plus (by repeat' (first | exact Plus.refl _ | refine Plus.alloc ?_ _ | refine Plus.plus ?_ _ | refine Plus.drew ?_ | refine Plus.drewN ?_ _))) (by decide)).mono ?_); rintro e w1 ⟨rfl, ⟨x1, rfl⟩⟩; rw [HB.out]) | (go_at_call 69; (with_reducible refine (cod_k _ _ _ _ 2 _ _ (Lib.hid (H.out.plus (by repeat' (first | exact Plus.refl _ | refine Plus.alloc ?_ _ | refine Plus.plus ?_ _ | refine Plus.drew ?_ | refine Plus.drewN ?_ _)))) (by decide) (by omega)).mono ?_); rintro e w1 ⟨rfl, rfl⟩))
  go_ret3
  exact ⟨by rw [HM.out]; rfl, (by repeat' (first | exact Plus.refl _ | refine Plus.alloc ?_ _ | refine Plus.plus ?_ _ | refine Plus.drew ?_ | refine Plus.drewN ?_ _))⟩
set_option maxRecDepth 100000 in
set_option maxHeartbeats 4000000 in
theorem esc_p5 (A : Option Addr) (xs : List Nat) (n c v : Nat) (w : World) (H : Hid (Ar .u16 65536 w A xs n c)) (HV : Hid (uAt xs 0 = v)) (hvb : v < 65536) (h0 : 0 < n) (HN : Hid (¬ xs = [])) (HE : Hid (isEnd v = false)) (HS : Hid (isSep v = false)) (HB : Hid (begB xs (nats ⟨#[117, 123]⟩) = false)) (d120 : ((v : Int) == 120) = false) (d117 : ((v : Int) == 117) = true) : Calls Tryd.prog 61 #[.slice A n c] w fun e w' => e = .returned (.tuple #[.int .u16 (escM xs).v, .int .i64 (escM xs).n, .int .i64 (escM xs).e]) ∧ Plus w w' := by
  have HM : Hid (escM xs = codE xs 4) := Lib.hid (by
    have hb3 : begB xs [117, 123] = false := by have q := HB.out; rw [nats_lit] at q; exact q
    rw [escM, if_neg HN.out, HV.out]
    rw [HE.out, HS.out, hb3]
    rw [if_neg (by decide)]
    rw [if_neg (by simp at d120; omega)]
    rw [if_pos (by simp at d117; omega)])
  go_enter Tryd.func61, Tryd.ntmps61
  go_wp2_with (first | (go_at_call 49; (with_reducible refine (unitAt_j _ _ _ _ 0 _ _ (H.out.plus (by repeat' (first | exact Plus.refl _ | refine Plus.alloc ?_ _ | refine Plus.plus ?_ _ | refine Plus.drew ?_ | refine Plus.drewN ?_ _))) (by omega) (by omega)).mono ?_); rintro e w1 ⟨rfl, rfl⟩; rw [HV.out]) | (go_at_call 39; (with_reducible refine (isEnd_c v hvb _).mono ?_); rintro e w1 ⟨rfl, rfl⟩; rw [HE.out]) | (go_at_call 55; (with_reducible refine (isSep_c v hvb _).mono ?_); rintro e w1 ⟨rfl, rfl⟩; rw [HS.out]) | (go_at_call 40; (with_reducible refine (begins_c _ _ _ _ ⟨#[117, 123]⟩ _ (H.out.plus (by repeat' (first | exact Plus.refl _ | refine Plus.alloc ?_ _ | refine Plus.plus ?_ _ | refine Plus.drew ?_ | refine Plus.drewN ?_ _))) (by decide)).mono ?_); rintro e w1 ⟨rfl, ⟨x1, rfl⟩⟩; rw [HB.out]) | (go_at_call 69; (with_reducible refine (cod_k _ _ _ _ 4 _ _ (Lib.hid (H.out.plus (by repeat' (first | exact Plus.refl _ | refine Plus.alloc ?_ _ | refine Plus.plus ?_ _ | refine Plus.drew ?_ | refine Plus.drewN ?_ _)))) (by decide) (by omega)).mono ?_); rintro e w1 ⟨rfl, rfl⟩))
  go_ret3
  exact ⟨by rw [HM.out]; rfl, (by repeat' (first | exact Plus.refl _ | refine Plus.alloc ?_ _ | refine Plus.plus ?_ _ | refine Plus.drew ?_ | refine Plus.drewN ?_ _))⟩
set_option maxRecDepth 100000 in
set_option maxHeartbeats 4000000 in
theorem esc_p6 (A : Option Addr) (xs : List Nat) (n c v nx : Nat) (w : World) (H : Hid (Ar .u16 65536 w A xs n c)) (HV : Hid (uAt xs 0 = v)) (hvb : v < 65536) (HX : Hid (uAt xs 1 = nx)) (hxb : nx < 65536) (h0 : 0 < n) (HN : Hid (¬ xs = [])) (HE : Hid (isEnd v = false)) (HS : Hid (isSep v = false)) (HB : Hid (begB xs (nats ⟨#[117, 123]⟩) = false)) (d120 : ((v : Int) == 120) = false) (d117 : ((v : Int) == 117) = false) (d48 : ((v : Int) == 48) = true) (HQ : Hid (isDig nx = false)) : Calls Tryd.prog 61 #[.slice A n c] w fun e w' => e = .returned (.tuple #[.int .u16 (escM xs).v, .int .i64 (escM xs).n, .int .i64 (escM xs).e]) ∧ Plus w w' := by
  have HM : Hid (escM xs = (⟨0, 1, 0⟩ : Es)) := Lib.hid (by
    have hb3 : begB xs [117, 123] = false := by have q := HB.out; rw [nats_lit] at q; exact q
    rw [escM, if_neg HN.out, HV.out]
    rw [HE.out, HS.out, hb3]
    rw [if_neg (by decide)]
    rw [if_neg (by simp at d120; omega)]
    rw [if_neg (by simp at d117; omega)]
    rw [if_pos ⟨by simp at d48; omega, by rw [HX.out, HQ.out]⟩])
  go_enter Tryd.func61, Tryd.ntmps61
  go_wp2_with (first | (go_at_call 49; (with_reducible refine (unitAt_j _ _ _ _ 0 _ _ (H.out.plus (by repeat' (first | exact Plus.refl _ | refine Plus.alloc ?_ _ | refine Plus.plus ?_ _ | refine Plus.drew ?_ | refine Plus.drewN ?_ _))) (by omega) (by omega)).mono ?_); rintro e w1 ⟨rfl, rfl⟩; rw [HV.out]) | (go_at_call 39; (with_reducible refine (isEnd_c v hvb _).mono ?_); rintro e w1 ⟨rfl, rfl⟩; rw [HE.out]) | (go_at_call 55; (with_reducible refine (isSep_c v hvb _).mono ?_); rintro e w1 ⟨rfl, rfl⟩; rw [HS.out]) | (go_at_call 40; (with_reducible refine (begins_c _ _ _ _ ⟨#[117, 123]⟩ _ (H.out.plus (by repeat' (first | exact Plus.refl _ | refine Plus.alloc ?_ _ | refine Plus.plus ?_ _ | refine Plus.drew ?_ | refine Plus.drewN ?_ _))) (by decide)).mono ?_); rintro e w1 ⟨rfl, ⟨x1, rfl⟩⟩; rw [HB.out]) | (go_at_call 49; (with_reducible refine (unitAt_j _ _ _ _ 1 _ _ (H.out.plus (by repeat' (first | exact Plus.refl _ | refine Plus.alloc ?_ _ | refine Plus.plus ?_ _ | refine Plus.drew ?_ | refine Plus.drewN ?_ _))) (by omega) (by omega)).mono ?_); rintro e w1 ⟨rfl, rfl⟩; rw [HX.out]) | (go_at_call 28; (with_reducible refine (isDig_c nx hxb _).mono ?_); rintro e w1 ⟨rfl, rfl⟩; rw [HQ.out]))
  go_ret3
  exact ⟨by rw [HM.out]; rfl, (by repeat' (first | exact Plus.refl _ | refine Plus.alloc ?_ _ | refine Plus.plus ?_ _ | refine Plus.drew ?_ | refine Plus.drewN ?_ _))⟩
set_option maxRecDepth 100000 in
set_option maxHeartbeats 4000000 in
theorem esc_p7 (A : Option Addr) (xs : List Nat) (n c v nx : Nat) (w : World) (H : Hid (Ar .u16 65536 w A xs n c)) (HV : Hid (uAt xs 0 = v)) (hvb : v < 65536) (HX : Hid (uAt xs 1 = nx)) (hxb : nx < 65536) (h0 : 0 < n) (HN : Hid (¬ xs = [])) (HE : Hid (isEnd v = false)) (HS : Hid (isSep v = false)) (HB : Hid (begB xs (nats ⟨#[117, 123]⟩) = false)) (d120 : ((v : Int) == 120) = false) (d117 : ((v : Int) == 117) = false) (d48 : ((v : Int) == 48) = true) (HQ : Hid (isDig nx = true)) (HD : Hid (isDig v = true)) : Calls Tryd.prog 61 #[.slice A n c] w fun e w' => e = .returned (.tuple #[.int .u16 (escM xs).v, .int .i64 (escM xs).n, .int .i64 (escM xs).e]) ∧ Plus w w' := by
  have HM : Hid (escM xs = (⟨0, 0, 5⟩ : Es)) := Lib.hid (by
    have hb3 : begB xs [117, 123] = false := by have q := HB.out; rw [nats_lit] at q; exact q
    rw [escM, if_neg HN.out, HV.out]
    rw [HE.out, HS.out, hb3]
    rw [if_neg (by decide)]
    rw [if_neg (by simp at d120; omega)]
    rw [if_neg (by simp at d117; omega)]
    rw [if_neg (by rw [HX.out, HQ.out]; simp), HD.out]
    rfl)
  go_enter Tryd.func61, Tryd.ntmps61
  go_wp2_with (first | (go_at_call 49; (with_reducible refine (unitAt_j _ _ _ _ 0 _ _ (H.out.plus (by repeat' (first | exact Plus.refl _ | refine Plus.alloc ?_ _ | refine Plus.plus ?_ _ | refine Plus.drew ?_ | refine Plus.drewN ?_ _))) (by omega) (by omega)).mono ?_); rintro e w1 ⟨rfl, rfl⟩; rw [HV.out]) | (go_at_call 39; (with_reducible refine (isEnd_c v hvb _).mono ?_); rintro e w1 ⟨rfl, rfl⟩; rw [HE.out]) | (go_at_call 55; (with_reducible refine (isSep_c v hvb _).mono ?_); rintro e w1 ⟨rfl, rfl⟩; rw [HS.out]) | (go_at_call 40; (with_reducible refine (begins_c _ _ _ _ ⟨#[117, 123]⟩ _ (H.out.plus (by repeat' (first | exact Plus.refl _ | refine Plus.alloc ?_ _ | refine Plus.plus ?_ _ | refine Plus.drew ?_ | refine Plus.drewN ?_ _))) (by decide)).mono ?_); rintro e w1 ⟨rfl, ⟨x1, rfl⟩⟩; rw [HB.out]) | (go_at_call 49; (with_reducible refine (unitAt_j _ _ _ _ 1 _ _ (H.out.plus (by repeat' (first | exact Plus.refl _ | refine Plus.alloc ?_ _ | refine Plus.plus ?_ _ | refine Plus.drew ?_ | refine Plus.drewN ?_ _))) (by omega) (by omega)).mono ?_); rintro e w1 ⟨rfl, rfl⟩; rw [HX.out]) | (go_at_call 28; (with_reducible refine (isDig_c nx hxb _).mono ?_); rintro e w1 ⟨rfl, rfl⟩; rw [HQ.out]) | (go_at_call 28; (with_reducible refine (isDig_c v hvb _).mono ?_); rintro e w1 ⟨rfl, rfl⟩; rw [HD.out]))
  go_ret3
  exact ⟨by rw [HM.out]; rfl, (by repeat' (first | exact Plus.refl _ | refine Plus.alloc ?_ _ | refine Plus.plus ?_ _ | refine Plus.drew ?_ | refine Plus.drewN ?_ _))⟩
set_option maxRecDepth 100000 in
set_option maxHeartbeats 4000000 in
theorem esc_p8 (A : Option Addr) (xs : List Nat) (n c v : Nat) (w : World) (H : Hid (Ar .u16 65536 w A xs n c)) (HV : Hid (uAt xs 0 = v)) (hvb : v < 65536) (h0 : 0 < n) (HN : Hid (¬ xs = [])) (HE : Hid (isEnd v = false)) (HS : Hid (isSep v = false)) (HB : Hid (begB xs (nats ⟨#[117, 123]⟩) = false)) (d120 : ((v : Int) == 120) = false) (d117 : ((v : Int) == 117) = false) (d48 : ((v : Int) == 48) = false) (HD : Hid (isDig v = true)) : Calls Tryd.prog 61 #[.slice A n c] w fun e w' => e = .returned (.tuple #[.int .u16 (escM xs).v, .int .i64 (escM xs).n, .int .i64 (escM xs).e]) ∧ Plus w w' := by
  have HM : Hid (escM xs = (⟨0, 0, 5⟩ : Es)) := Lib.hid (by
    have hb3 : begB xs [117, 123] = false := by have q := HB.out; rw [nats_lit] at q; exact q
    rw [escM, if_neg HN.out, HV.out]
    rw [HE.out, HS.out, hb3]
    rw [if_neg (by decide)]
    rw [if_neg (by simp at d120; omega)]
    rw [if_neg (by simp at d117; omega)]
    rw [if_neg (by simp at d48; omega), HD.out]
    rfl)
  go_enter Tryd.func61, Tryd.ntmps61
  go_wp2_with (first | (go_at_call 49; (with_reducible refine (unitAt_j _ _ _ _ 0 _ _ (H.out.plus (by repeat' (first | exact Plus.refl _ | refine Plus.alloc ?_ _ | refine Plus.plus ?_ _ | refine Plus.drew ?_ | refine Plus.drewN ?_ _))) (by omega) (by omega)).mono ?_); rintro e w1 ⟨rfl, rfl⟩; rw [HV.out]) | (go_at_call 39; (with_reducible refine (isEnd_c v hvb _).mono ?_); rintro e w1 ⟨rfl, rfl⟩; rw [HE.out]) | (go_at_call 55; (with_reducible refine (isSep_c v hvb _).mono ?_); rintro e w1 ⟨rfl, rfl⟩; rw [HS.out]) | (go_at_call 40; (with_reducible refine (begins_c _ _ _ _ ⟨#[117, 123]⟩ _ (H.out.plus (by repeat' (first | exact Plus.refl _ | refine Plus.alloc ?_ _ | refine Plus.plus ?_ _ | refine Plus.drew ?_ | refine Plus.drewN ?_ _))) (by decide)).mono ?_); rintro e w1 ⟨rfl, ⟨x1, rfl⟩⟩; rw [HB.out]) | (go_at_call 28; (with_reducible refine (isDig_c v hvb _).mono ?_); rintro e w1 ⟨rfl, rfl⟩; rw [HD.out]))
  go_ret3
  exact ⟨by rw [HM.out]; rfl, (by repeat' (first | exact Plus.refl _ | refine Plus.alloc ?_ _ | refine Plus.plus ?_ _ | refine Plus.drew ?_ | refine Plus.drewN ?_ _))⟩
set_option maxRecDepth 100000 in
set_option maxHeartbeats 4000000 in
theorem esc_p9 (A : Option Addr) (xs : List Nat) (n c v : Nat) (w : World) (H : Hid (Ar .u16 65536 w A xs n c)) (HV : Hid (uAt xs 0 = v)) (hvb : v < 65536) (h0 : 0 < n) (HN : Hid (¬ xs = [])) (HE : Hid (isEnd v = false)) (HS : Hid (isSep v = false)) (HB : Hid (begB xs (nats ⟨#[117, 123]⟩) = false)) (d120 : ((v : Int) == 120) = false) (d117 : ((v : Int) == 117) = false) (d48 : ((v : Int) == 48) = false) (HD : Hid (isDig v = false)) : Calls Tryd.prog 61 #[.slice A n c] w fun e w' => e = .returned (.tuple #[.int .u16 (escM xs).v, .int .i64 (escM xs).n, .int .i64 (escM xs).e]) ∧ Plus w w' := by
  have HM : Hid (escM xs = (⟨ctlV v, 1, 0⟩ : Es)) := Lib.hid (by
    have hb3 : begB xs [117, 123] = false := by have q := HB.out; rw [nats_lit] at q; exact q
    rw [escM, if_neg HN.out, HV.out]
    rw [HE.out, HS.out, hb3]
    rw [if_neg (by decide)]
    rw [if_neg (by simp at d120; omega)]
    rw [if_neg (by simp at d117; omega)]
    rw [if_neg (by simp at d48; omega), HD.out]
    rfl)
  go_enter Tryd.func61, Tryd.ntmps61
  go_wp2_with (first | (go_at_call 49; (with_reducible refine (unitAt_j _ _ _ _ 0 _ _ (H.out.plus (by repeat' (first | exact Plus.refl _ | refine Plus.alloc ?_ _ | refine Plus.plus ?_ _ | refine Plus.drew ?_ | refine Plus.drewN ?_ _))) (by omega) (by omega)).mono ?_); rintro e w1 ⟨rfl, rfl⟩; rw [HV.out]) | (go_at_call 39; (with_reducible refine (isEnd_c v hvb _).mono ?_); rintro e w1 ⟨rfl, rfl⟩; rw [HE.out]) | (go_at_call 55; (with_reducible refine (isSep_c v hvb _).mono ?_); rintro e w1 ⟨rfl, rfl⟩; rw [HS.out]) | (go_at_call 40; (with_reducible refine (begins_c _ _ _ _ ⟨#[117, 123]⟩ _ (H.out.plus (by repeat' (first | exact Plus.refl _ | refine Plus.alloc ?_ _ | refine Plus.plus ?_ _ | refine Plus.drew ?_ | refine Plus.drewN ?_ _))) (by decide)).mono ?_); rintro e w1 ⟨rfl, ⟨x1, rfl⟩⟩; rw [HB.out]) | (go_at_call 28; (with_reducible refine (isDig_c v hvb _).mono ?_); rintro e w1 ⟨rfl, rfl⟩; rw [HD.out]) | (go_at_call 70; (with_reducible refine (ctl_c v _).mono ?_); rintro e w1 ⟨rfl, rfl⟩))
  go_ret3
  exact ⟨by rw [HM.out]; rfl, (by repeat' (first | exact Plus.refl _ | refine Plus.alloc ?_ _ | refine Plus.plus ?_ _ | refine Plus.drew ?_ | refine Plus.drewN ?_ _))⟩
theorem esc_c (A : Option Addr) (xs : List Nat) (n c : Nat) (w : World) (h : Ar .u16 65536 w A xs n c) :
    Calls Tryd.prog 61 #[.slice A n c] w fun e w' => e = .returned (.tuple #[.int .u16 (escM xs).v, .int .i64 (escM xs).n, .int .i64 (escM xs).e]) ∧ Plus w w' := by
  have hvb := uAt_bd h 0
  have hxb := uAt_bd h 1
  have hlen := h.len
  have H := Lib.hid h
  have bf : ∀ b : Bool, ¬ b = true → b = false := fun b q => by simpa using q
  by_cases h0 : n = 0
  · exact esc_p0 A xs n c _ w H (Lib.hid rfl) h0 (Lib.hid (List.eq_nil_of_length_eq_zero (by omega)))
  have h0' : 0 < n := by omega
  have hn : ¬ xs = [] := fun e => by subst e; exact h0 hlen
  have HN := Lib.hid hn
  by_cases he : isEnd (uAt xs 0) = true
  · exact esc_p1 A xs n c _ w H (Lib.hid rfl) hvb h0' HN (Lib.hid he)
  have HE := Lib.hid (bf _ he)
  by_cases hs : isSep (uAt xs 0) = true
  · exact esc_p2 A xs n c _ w H (Lib.hid rfl) hvb h0' HN HE (Lib.hid hs)
  have HS := Lib.hid (bf _ hs)
  by_cases hb : begB xs (nats ⟨#[117, 123]⟩) = true
  · exact esc_p3 A xs n c _ w H (Lib.hid rfl) hvb h0' HN HE HS (Lib.hid hb)
  have HB := Lib.hid (bf _ hb)
  by_cases d1 : ((uAt xs 0 : Int) == 120) = true
  · exact esc_p4 A xs n c _ w H (Lib.hid rfl) hvb h0' HN HE HS HB d1
  have d1 := bf _ d1
  by_cases d2 : ((uAt xs 0 : Int) == 117) = true
  · exact esc_p5 A xs n c _ w H (Lib.hid rfl) hvb h0' HN HE HS HB d1 d2
  have d2 := bf _ d2
  by_cases d3 : ((uAt xs 0 : Int) == 48) = true
  · by_cases q : isDig (uAt xs 1) = true
    · exact esc_p7 A xs n c _ _ w H (Lib.hid rfl) hvb (Lib.hid rfl) hxb h0' HN HE HS HB d1 d2 d3 (Lib.hid q) (Lib.hid (by simp at d3; have : uAt xs 0 = 48 := (by omega); rw [this]; rfl))
    · exact esc_p6 A xs n c _ _ w H (Lib.hid rfl) hvb (Lib.hid rfl) hxb h0' HN HE HS HB d1 d2 d3 (Lib.hid (bf _ q))
  have d3 := bf _ d3
  by_cases q : isDig (uAt xs 0) = true
  · exact esc_p8 A xs n c _ w H (Lib.hid rfl) hvb h0' HN HE HS HB d1 d2 d3 (Lib.hid q)
  · exact esc_p9 A xs n c _ w H (Lib.hid rfl) hvb h0' HN HE HS HB d1 d2 d3 (Lib.hid (bf _ q))
end Go.Proofs.YtaigkjffglbknaaDoor
