/- What the chapter's examples fix. -/
import Derived.WalkKit
import Derived.WalkSpells
import Derived.WalkLawsBesides
import Derived.Handy
import Derived.Deep.RegionHeld3
import Derived.Deep.DeepCutAuto
import Derived.Deep.QuietTactic
import Derived.BigQuiet
import Derived.Lib.Hide
import Derived.KernelRfl
import Derived.WalkMore
import Derived.Deep.LoopGhost
import Derived.IntWalk
import Derived.Deep.RegionLaw
import Derived.RangeFuncBox
import Derived.Test.YtmfdlcicbiincaaDoorK17
import Derived.Test.YtmfdlcicbiincaaDoorE14
namespace Go.Proofs.YtmfdlcicbiincaaDoor
open Go.RowKit


def th1 : Ev := ⟨0, 2, false, false, 0, 0, 1, [], [1], []⟩
def th2 : Ev := ⟨0, 2, true, true, 0, 1, 1, [], [2], []⟩
def th3 : Ev := ⟨1, 1, true, true, 0, 1, 1, [2], [], [1]⟩
def thL : List Ev := [th1, th2, th3]
def thR (w : World) : List ER := [⟨th1, none, 0, (some ⟨w.heap.size + 1, 0, none⟩), 1, none, 0⟩, ⟨th2, none, 0, (some ⟨w.heap.size + 1 + 1, 0, none⟩), 1, none, 0⟩, ⟨th3, (some ⟨w.heap.size + 1 + 1 + 1, 0, none⟩), 1, none, 0, (some ⟨w.heap.size + 1 + 1 + 1 + 1, 0, none⟩), 1⟩]
set_option maxRecDepth 100000 in
set_option maxHeartbeats 4000000 in
theorem three_es (w : World) : Es ((((((w.alloc (.cells #[.slice (some ⟨w.heap.size + 1 + 1 + 1 + 1 + 1, 0, none⟩) 3 3, .slice none 0 0] 25)).alloc (.cells #[.int .u8 1] 5)).alloc (.cells #[.int .u8 2] 5)).alloc (.cells #[.int .u8 2] 5)).alloc (.cells #[.int .i64 1] 3)).alloc (.cells #[.int .i64 0, .int .i64 2, .bool false, .bool false, .int .i64 0, .int .i64 0, .int .i64 1, .slice none 0 0, .slice (some ⟨w.heap.size + 1, 0, none⟩) 1 1, .slice none 0 0, .int .i64 0, .int .i64 2, .bool true, .bool true, .int .i64 0, .int .i64 1, .int .i64 1, .slice none 0 0, .slice (some ⟨w.heap.size + 1 + 1, 0, none⟩) 1 1, .slice none 0 0, .int .i64 1, .int .i64 1, .bool true, .bool true, .int .i64 0, .int .i64 1, .int .i64 1, .slice (some ⟨w.heap.size + 1 + 1 + 1, 0, none⟩) 1 1, .slice none 0 0, .slice (some ⟨w.heap.size + 1 + 1 + 1 + 1, 0, none⟩) 1 1] 42)) (some ⟨w.heap.size + 1 + 1 + 1 + 1 + 1, 0, none⟩) (thR w) 3 3 := by
  refine es_of_own (B := 0) (ys := thR w) ⟨rfl, .inr ⟨_, 3, #[.int .i64 0, .int .i64 2, .bool false, .bool false, .int .i64 0, .int .i64 0, .int .i64 1, .slice none 0 0, .slice (some ⟨w.heap.size + 1, 0, none⟩) 1 1, .slice none 0 0, .int .i64 0, .int .i64 2, .bool true, .bool true, .int .i64 0, .int .i64 1, .int .i64 1, .slice none 0 0, .slice (some ⟨w.heap.size + 1 + 1, 0, none⟩) 1 1, .slice none 0 0, .int .i64 1, .int .i64 1, .bool true, .bool true, .int .i64 0, .int .i64 1, .int .i64 1, .slice (some ⟨w.heap.size + 1 + 1 + 1, 0, none⟩) 1 1, .slice none 0 0, .slice (some ⟨w.heap.size + 1 + 1 + 1 + 1, 0, none⟩) 1 1], rfl, Nat.zero_le _, ?_, Nat.le_refl _, by unfold maxLen; omega, rfl, rfl⟩⟩ ?_
  · exact new_at _ _ (by simp)
  · intro y hy
    unfold thR at hy
    simp only [List.mem_cons, List.not_mem_nil, or_false] at hy
    have two : ∀ j, ¬ j + 1 < 1 := fun j => by omega
    rcases hy with rfl | rfl | rfl
    · refine ⟨Ar.nil _ _ (Nat.zero_le _) _, ar_one (xs := [1]) (by simp) (fun j hj => ?_) (by decide), Ar.nil _ _ (Nat.zero_le _) _, by_one rfl, by_one rfl⟩
      rcases j with _ | j
      · simp [go_sem]
      · exact absurd hj (two j)
    · refine ⟨Ar.nil _ _ (Nat.zero_le _) _, ar_one (xs := [2]) (by simp) (fun j hj => ?_) (by decide), Ar.nil _ _ (Nat.zero_le _) _, by_one rfl, by_one rfl⟩
      rcases j with _ | j
      · simp [go_sem]
      · exact absurd hj (two j)
    · refine ⟨ar_one (xs := [2]) (by simp) (fun j hj => ?_) (by decide), Ar.nil _ _ (Nat.zero_le _) _, ar_one (xs := [1]) (by simp) (fun j hj => ?_) (by decide), by_one rfl, by_one rfl⟩
      · rcases j with _ | j
        · simp [go_sem]
        · exact absurd hj (two j)
      · rcases j with _ | j
        · simp [go_sem]
        · exact absurd hj (two j)
set_option maxRecDepth 100000 in
set_option maxHeartbeats 4000000 in
theorem three_c (w : World) : Calls Tryd.prog 41 #[] w fun e w' => e = .returned (.agg #[.slice (some ⟨w.heap.size + 1 + 1 + 1 + 1 + 1, 0, none⟩) 3 3, .slice none 0 0]) ∧ w' = ((((((w.alloc (.cells #[.slice (some ⟨w.heap.size + 1 + 1 + 1 + 1 + 1, 0, none⟩) 3 3, .slice none 0 0] 25)).alloc (.cells #[.int .u8 1] 5)).alloc (.cells #[.int .u8 2] 5)).alloc (.cells #[.int .u8 2] 5)).alloc (.cells #[.int .i64 1] 3)).alloc (.cells #[.int .i64 0, .int .i64 2, .bool false, .bool false, .int .i64 0, .int .i64 0, .int .i64 1, .slice none 0 0, .slice (some ⟨w.heap.size + 1, 0, none⟩) 1 1, .slice none 0 0, .int .i64 0, .int .i64 2, .bool true, .bool true, .int .i64 0, .int .i64 1, .int .i64 1, .slice none 0 0, .slice (some ⟨w.heap.size + 1 + 1, 0, none⟩) 1 1, .slice none 0 0, .int .i64 1, .int .i64 1, .bool true, .bool true, .int .i64 0, .int .i64 1, .int .i64 1, .slice (some ⟨w.heap.size + 1 + 1 + 1, 0, none⟩) 1 1, .slice none 0 0, .slice (some ⟨w.heap.size + 1 + 1 + 1 + 1, 0, none⟩) 1 1] 42)) := by
  go_enter Tryd.func41, Tryd.ntmps41
  go_wp2
  go_returns
  exact ⟨rfl, rfl⟩
def RetTh (w : World) (e : Ending) (w' : World) : Prop := ∃ A, e = .returned (.agg #[.slice A 3 3, .slice none 0 0]) ∧ Lg w' thL [] A 3 3 none 0 0 ∧ Plus w w'
theorem three_q (w : World) : Calls Tryd.prog 41 #[] w (RetTh w) :=
  (three_c w).mono fun e w' ⟨h1, h2⟩ => ⟨_, h1, by rw [h2]; exact ⟨⟨thR w, rfl, three_es w⟩, Pa.nil _ 0 (by omega) none⟩, by rw [h2]; exact (by repeat' (first | exact Plus.refl _ | refine Plus.alloc ?_ _ | refine Plus.plus ?_ _ | refine Plus.drew ?_ | refine Plus.drewN ?_ _))⟩
theorem th_may : MayP thL [] := ⟨by show 3 ≤ 1000; omega, by simp, fun i h => absurd h (by simp), fun n hn => by
  rcases n with _ | _ | _ | n
  · exact ⟨by decide, fun i hi => absurd hi (by simp [thL, th1])⟩
  · exact ⟨by decide, fun i hi => absurd hi (by simp [thL, th2])⟩
  · refine ⟨by decide, fun i hi => ?_⟩
    rcases i with _ | i
    · decide
    · exact absurd hi (by show ¬ i + 1 < 1; omega)
  · exact absurd hn (by show ¬ n + 1 + 1 + 1 < 3; omega)⟩
theorem th_bef (a b : Nat) : befB thL [] a b = decide ((a, b) ∈ [(0, 1), (1, 2), (0, 2)]) := by
  have e01 : edgB thL [] 0 1 = true := by decide
  have e12 : edgB thL [] 1 2 = true := by decide
  have q : befB thL [] a b = true ↔ (a, b) ∈ [(0, 1), (1, 2), (0, 2)] := by
    unfold befB
    rw [cloB_iff]
    constructor
    · intro h
      have h2 := h.fwd (n := 3) (edg_fwd th_may)
      have h3 : (a = 0 ∧ b = 1) ∨ (a = 0 ∧ b = 2) ∨ (a = 1 ∧ b = 2) := by omega
      rcases h3 with ⟨rfl, rfl⟩ | ⟨rfl, rfl⟩ | ⟨rfl, rfl⟩ <;> simp
    · intro h
      simp only [List.mem_cons, Prod.mk.injEq, List.not_mem_nil, or_false] at h
      rcases h with ⟨rfl, rfl⟩ | ⟨rfl, rfl⟩ | ⟨rfl, rfl⟩
      · exact .one e01
      · exact .one e12
      · exact .step e01 (.one e12)
  cases h : befB thL [] a b
  · symm
    rw [decide_eq_false_iff_not]
    intro h2
    rw [q.2 h2] at h
    cases h
  · symm
    rw [decide_eq_true_eq]
    exact q.1 h
theorem th_fun : befB thL [] = fun a b => decide ((a, b) ∈ [(0, 1), (1, 2), (0, 2)]) := by funext a b; exact th_bef a b
theorem th_list : ((prs (befB thL []) 1 3).map toPr).length = 3 := by
  rw [th_fun]
  kernel_rfl
set_option maxRecDepth 100000 in
set_option maxHeartbeats 4000000 in
theorem first_c (w : World) (hL : Lai w) : Calls Tryd.prog 10 #[] w fun e w' => e = .returned (.bool true) ∧ Plus w w' := by
  have HL := Lib.hid hL
  clear hL
  have h01 := (fun (p : Nat) (B : Nat) (hs : List Nat) (w' : World) (H : Rl w' B p 3 1 (befB thL []) hs) => has_r (a := 0) (b := 1) (r := true) w' H (by omega) (by omega) (by rw [th_fun]; decide))
  have h12 := (fun (p : Nat) (B : Nat) (hs : List Nat) (w' : World) (H : Rl w' B p 3 1 (befB thL []) hs) => has_r (a := 1) (b := 2) (r := true) w' H (by omega) (by omega) (by rw [th_fun]; decide))
  have h02 := (fun (p : Nat) (B : Nat) (hs : List Nat) (w' : World) (H : Rl w' B p 3 1 (befB thL []) hs) => has_r (a := 0) (b := 2) (r := true) w' H (by omega) (by omega) (by rw [th_fun]; decide))
  have h20 := (fun (p : Nat) (B : Nat) (hs : List Nat) (w' : World) (H : Rl w' B p 3 1 (befB thL []) hs) => has_r (a := 2) (b := 0) (r := false) w' H (by omega) (by omega) (by rw [th_fun]; decide))
  have h10 := (fun (p : Nat) (B : Nat) (hs : List Nat) (w' : World) (H : Rl w' B p 3 1 (befB thL []) hs) => has_r (a := -1) (b := 0) (r := false) w' H (by omega) (by omega) (by rw [th_fun]; decide))
  have HTL := Lib.hid th_list
  go_enter Tryd.func10, Tryd.ntmps10
  go_wp2_with (first
    | (go_at_call 41; (refine (three_q _).mono ?_); rintro e xw ⟨A, rfl, hlg, ⟨x0, rfl⟩⟩; have HLG := Lib.hid hlg; clear hlg)
    | (go_at_call 18; (refine (before_t _ (HL.out.plus (by repeat' (first | exact Plus.refl _ | refine Plus.alloc ?_ _ | refine Plus.plus ?_ _ | refine Plus.drew ?_ | refine Plus.drewN ?_ _))) HLG.out (Lib.hid th_may) (Lib.hid (rfl : 1 = (3 + 63) / 64)) (by omega)).mono ?_); rintro e xw ⟨p1, hs1, rfl, hRl, ⟨x1, rfl⟩⟩; have HR := Lib.hid hRl; clear hRl)
    | (go_at_call 42; (refine (len_r _ HR.out).mono ?_); rintro e w' ⟨rfl, hw'⟩; rw [hw']; clear hw' w')
    | (go_at_call 21; (with_reducible refine (h01 _ _ _ _ HR.out).mono ?_); rintro e w' ⟨rfl, hw'⟩; rw [hw']; clear hw' w')
    | (go_at_call 21; (with_reducible refine (h12 _ _ _ _ HR.out).mono ?_); rintro e w' ⟨rfl, hw'⟩; rw [hw']; clear hw' w')
    | (go_at_call 21; (with_reducible refine (h02 _ _ _ _ HR.out).mono ?_); rintro e w' ⟨rfl, hw'⟩; rw [hw']; clear hw' w')
    | (go_at_call 21; (with_reducible refine (h20 _ _ _ _ HR.out).mono ?_); rintro e w' ⟨rfl, hw'⟩; rw [hw']; clear hw' w')
    | (go_at_call 21; (with_reducible refine (h10 _ _ _ _ HR.out).mono ?_); rintro e w' ⟨rfl, hw'⟩; rw [hw']; clear hw' w')
    | (go_at_call 43; (refine (list_c _ (HL.out.plus (by repeat' (first | exact Plus.refl _ | refine Plus.alloc ?_ _ | refine Plus.plus ?_ _ | refine Plus.drew ?_ | refine Plus.drewN ?_ _))) HR.out (by omega) (by omega)).mono ?_); rintro e w' ⟨D, cD, rfl, _, ⟨x2, rfl⟩⟩; rw [HTL.out]))
  go_returns
  exact ⟨rfl, (by repeat' (first | exact Plus.refl _ | refine Plus.alloc ?_ _ | refine Plus.plus ?_ _ | refine Plus.drew ?_ | refine Plus.drewN ?_ _))⟩
end Go.Proofs.YtmfdlcicbiincaaDoor
