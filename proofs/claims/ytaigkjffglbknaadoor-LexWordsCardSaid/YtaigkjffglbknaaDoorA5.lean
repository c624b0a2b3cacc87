/- Contracts: what units begin with. -/
import Derived.Deep.RegionHeld3
import Derived.Test.YtaigkjffglbknaaDoorA4
namespace Go.Proofs.YtaigkjffglbknaaDoor
open Go.RowKit


theorem Ar.tk {k : IntKind} {K : Nat} {w : World} {A : Option Addr} {xs : List Nat} {n c : Nat} (h : Ar k K w A xs n c) {m : Nat} (hm : m ≤ n) : Ar k K w A (xs.take m) m c :=
  ⟨h.rd.take m, by rw [List.length_take, ← h.len]; omega, by have := h.cap; omega, h.max, fun x hx => h.bd x (List.mem_of_mem_take hx)⟩
theorem Ar.dr {k : IntKind} {K : Nat} {w : World} {g o : Nat} {xs : List Nat} {n c : Nat} (h : Ar k K w (some ⟨g, o, none⟩) xs n c) {m : Nat} (hm : m ≤ n) : Ar k K w (some ⟨g, o + m, none⟩) (xs.drop m) (n - m) (c - m) := by
  refine ⟨fun h0 => ?_, by rw [List.length_drop, ← h.len], by have := h.cap; omega, by have := h.max; omega, fun x hx => h.bd x (List.mem_of_mem_drop hx)⟩
  rw [List.length_drop] at h0
  obtain ⟨g2, o2, e, hg, hc⟩ := h.rd (by omega)
  injection e with e
  injection e with e1 e2
  subst e1 e2
  exact ⟨_, _, rfl, hg, hc.drop m⟩
theorem nats_new {s : ByteArray} {w : World} {A : Option Addr} {c : Nat} (h1 : (nats s).length ≤ c) (h2 : c ≤ 9223372036854775807) (h : Rd .u16 w A (nats s)) : Ar .u16 65536 w A (nats s) (nats s).length c :=
  ⟨h, rfl, h1, h2, fun x hx => by have := nats_B s x hx; omega⟩
theorem begB_short {xs p : List Nat} (h : xs.length < p.length) : begB xs p = false := by
  unfold begB
  apply decide_eq_false
  intro e
  have := congrArg List.length e
  rw [List.length_take] at this
  omega
set_option maxRecDepth 100000 in
set_option maxHeartbeats 2000000 in
theorem begins_c (A : Option Addr) (xs : List Nat) (n c : Nat) (s : ByteArray) (w : World) (h : Ar .u16 65536 w A xs n c) (hs : s.size ≤ 140737488355328) :
    Calls Tryd.prog 40 #[.slice A n c, .string s] w fun e w' => e = .returned (.bool (begB xs (nats s))) ∧ Plus w w' := by
  by_cases hl : s.size ≤ n
  · have hb : begB xs (nats s) = decide (xs.take s.size = nats s) := by unfold begB; rw [nats_len]
    rw [hb]
    have H := Lib.hid h
    have hcap := h.cap
    have hmax := h.max
    have d1 : decide (s.size ≤ n) = true := by simp; omega
    have hn0 := h.len
    have HN := Lib.hid hn0
    have hI1 : (0 : Int) ≤ (s.size : Int) := by omega
    have hI2 : (s.size : Int) ≤ (c : Int) := by omega
    have hI3 : (s.size : Int) ≤ (n : Int) := by omega
    clear hb h hn0
    go_enter Tryd.func40, Tryd.ntmps40
    go_wp2_with fail
    go_region_held3 (fun w' => Plus w w') (repeat' (first | exact Plus.refl _ | refine Plus.alloc ?_ _ | refine Plus.plus ?_ _ | refine Plus.drew ?_ | refine Plus.drewN ?_ _)) (first
      | (go_at_call 20; (with_reducible refine (ascii_c s hs _).mono ?_); rintro e w1 ⟨A1, c1, rfl, q1, q2, q3, ⟨x1, rfl⟩⟩; have Q1 := Lib.hid q1; have Q2 := Lib.hid q2; have Q3 := Lib.hid q3; clear q1 q2 q3)
      | (go_at_call 54; (with_reducible refine (same_c _ _ (xs.take s.size) (nats s) _ _ _ _ _ ((H.out.tk hl).plus (by repeat' (first | exact Plus.refl _ | refine Plus.alloc ?_ _ | refine Plus.plus ?_ _ | refine Plus.drew ?_ | refine Plus.drewN ?_ _))) (by first | exact (nats_new Q1.out Q2.out Q3.out) | exact (nats_new Q1.out Q2.out Q3.out).drew | (have q := Q3.out; simp only [plus_drew] at q ⊢; exact (nats_new Q1.out Q2.out q)))).mono ?_); rintro e w2 ⟨rfl, ⟨x2, rfl⟩⟩))
    all_goals
      go_wp2_with fail
      go_ret
      refine ⟨rfl, ?_⟩
      repeat' (first | exact Plus.refl _ | refine Plus.alloc ?_ _ | refine Plus.plus ?_ _ | refine Plus.drew ?_ | refine Plus.drewN ?_ _)
  · have hb : begB xs (nats s) = false := begB_short (by rw [nats_len, ← h.len]; omega)
    have HB := Lib.hid hb
    have d1 : decide (s.size ≤ n) = false := by simp; omega
    have hcap := h.cap
    have hmax := h.max
    clear hb h
    go_enter Tryd.func40, Tryd.ntmps40
    go_wp2_with fail
    go_quiet (fail)
    go_wp2_with fail
    go_ret
    exact ⟨by rw [HB.out]; rfl, (Plus.refl _).drewN _⟩
end Go.Proofs.YtaigkjffglbknaaDoor
