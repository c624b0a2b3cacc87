/- The walk of TextOrders. -/
import Derived.Test.YtlbjjkiflcjkgaaDoorR1
namespace Go.Proofs.YtlbjjkiflcjkgaaDoor
open Go.RowKit


theorem less_n {A C : Option Addr} {xs ys : List Nat} {n c m d : Nat} {b : Bool} (h : Hid (lessL xs ys = b)) (w : World) (ha : Ar .u16 65536 w A xs n c) (hb : Ar .u16 65536 w C ys m d) :
    Calls Tryd.prog 21 #[.slice A n c, .slice C m d] w fun e w' => e = .returned (.bool b) ∧ w = w' := by
  rw [← h.out]; exact less_c A C xs ys n c m d w ha hb
theorem same_n {A C : Option Addr} {xs ys : List Nat} {n c m d : Nat} {b : Bool} (h : Hid (decide (xs = ys) = b)) (w : World) (ha : Ar .u16 65536 w A xs n c) (hb : Ar .u16 65536 w C ys m d) :
    Calls Tryd.prog 22 #[.slice A n c, .slice C m d] w fun e w' => e = .returned (.bool b) ∧ Plus w w' := by
  rw [← h.out]; exact same_c A C xs ys n c m d w ha hb
set_option maxRecDepth 100000 in
set_option maxHeartbeats 16000000 in
theorem orders_h (A C E : Option Addr) (xs ys zs : List Nat) (n c m d k l : Nat) (w : World) (hL : Hid (Lai w)) (ha : Hid (Ar .u16 65536 w A xs n c)) (hb : Hid (Ar .u16 65536 w C ys m d)) (hc : Hid (Ar .u16 65536 w E zs k l)) (f1 : n ≤ 5000) (f2 : m ≤ 5000) (f3 : k ≤ 5000)
    (b1 b2 b3 b4 b5 : Bool) (h1 : Hid (lessL xs ys = b1)) (h2 : Hid (lessL ys xs = b2)) (h3 : Hid (decide (xs = ys) = b3)) (h4 : Hid (lessL ys zs = b4)) (h5 : Hid (lessL xs zs = b5)) (h6 : Hid (lessL xs xs = false)) (h7 : Hid (lessL xs (xs ++ [0]) = true))
    (hv : Hid ((b1 = true ∧ b2 = false ∧ b3 = false ∧ (b4 = true → b5 = true)) ∨ (b1 = false ∧ b2 = true ∧ b3 = false) ∨ (b1 = false ∧ b2 = false ∧ b3 = true))) :
    Calls Tryd.prog 5 #[.slice A n c, .slice C m d, .slice E k l] w fun e w' => e = .returned (.bool true) ∧ Plus w w' := by
  obtain ⟨i0, hi, hz0, hz1, hz2⟩ := info_parts infoU16
  have hxl : xs.length ≤ 5000 := by have := ha.out.len; omega
  have hB0 : (∀ x ∈ xs, x < 65536) → ∀ x ∈ xs ++ [0], x < 65536 := fun q x hx => by
    rcases List.mem_append.1 hx with h | h
    · exact q x h
    · simp at h; omega
  rcases hv.out with ⟨rfl, rfl, rfl, h45⟩ | ⟨rfl, rfl, rfl⟩ | ⟨rfl, rfl, rfl⟩
  · have h45 := Lib.hid h45
    cases b4
    · clear h45
      go_enter Tryd.func5, Tryd.ntmps5
      go_wp2_with fail
      refine (first_c _ (hL.out.plus (by repeat' (first | exact Plus.refl _ | refine Plus.alloc ?_ _ | refine Plus.plus ?_ _ | refine Plus.drew ?_ | refine Plus.drewN ?_ _)))).mono ?_
      rintro e w1 ⟨rfl, ⟨y0, rfl⟩⟩
      go_wp2_with fail
      refine (less_n h1 _ (ha.out.plus (by repeat' (first | exact Plus.refl _ | refine Plus.alloc ?_ _ | refine Plus.plus ?_ _ | refine Plus.drew ?_ | refine Plus.drewN ?_ _))) (hb.out.plus (by repeat' (first | exact Plus.refl _ | refine Plus.alloc ?_ _ | refine Plus.plus ?_ _ | refine Plus.drew ?_ | refine Plus.drewN ?_ _)))).mono ?_
      rintro e w1 ⟨rfl, rfl⟩
      go_wp2_with fail
      refine (less_n h2 _ (hb.out.plus (by repeat' (first | exact Plus.refl _ | refine Plus.alloc ?_ _ | refine Plus.plus ?_ _ | refine Plus.drew ?_ | refine Plus.drewN ?_ _))) (ha.out.plus (by repeat' (first | exact Plus.refl _ | refine Plus.alloc ?_ _ | refine Plus.plus ?_ _ | refine Plus.drew ?_ | refine Plus.drewN ?_ _)))).mono ?_
      rintro e w1 ⟨rfl, rfl⟩
      go_wp2_with fail
      refine (same_n h3 _ (ha.out.plus (by repeat' (first | exact Plus.refl _ | refine Plus.alloc ?_ _ | refine Plus.plus ?_ _ | refine Plus.drew ?_ | refine Plus.drewN ?_ _))) (hb.out.plus (by repeat' (first | exact Plus.refl _ | refine Plus.alloc ?_ _ | refine Plus.plus ?_ _ | refine Plus.drew ?_ | refine Plus.drewN ?_ _)))).mono ?_
      rintro e w1 ⟨rfl, ⟨y1, rfl⟩⟩
      go_wp2_with fail
      refine (less_n h4 _ (hb.out.plus (by repeat' (first | exact Plus.refl _ | refine Plus.alloc ?_ _ | refine Plus.plus ?_ _ | refine Plus.drew ?_ | refine Plus.drewN ?_ _))) (hc.out.plus (by repeat' (first | exact Plus.refl _ | refine Plus.alloc ?_ _ | refine Plus.plus ?_ _ | refine Plus.drew ?_ | refine Plus.drewN ?_ _)))).mono ?_
      rintro e w1 ⟨rfl, rfl⟩
      go_wp2_with fail
      refine (first_c _ (hL.out.plus (by repeat' (first | exact Plus.refl _ | refine Plus.alloc ?_ _ | refine Plus.plus ?_ _ | refine Plus.drew ?_ | refine Plus.drewN ?_ _)))).mono ?_
      rintro e w1 ⟨rfl, ⟨y2, rfl⟩⟩
      go_wp2_with fail
      refine (copyUnits_c _ _ _ _ _ (ha.out.plus (by repeat' (first | exact Plus.refl _ | refine Plus.alloc ?_ _ | refine Plus.plus ?_ _ | refine Plus.drew ?_ | refine Plus.drewN ?_ _))) (by omega)).mono ?_
      rintro e w1 ⟨v, rfl, hv0, ⟨x5, rfl⟩⟩
      have HV := Lib.hid hv0
      clear hv0
      go_wp2_with (at_builtin; refine wpList_append_yes (by rfl) _ _ 23 rfl (plus (plus (plus w y0) y1) y2).heap.size 35 i0 (.int .u16 0) 1 2 Tryd.underlying23 hi hz0 hz1 hz2 rfl (by decide) _ _ _ rfl (own_alloc (own_plus HV.out (Plus.refl _)) _) ⟨w.heap.size + y0.blocks.length + y1.blocks.length + y2.blocks.length + x5.blocks.length, 0, none⟩ 1 1 (vals .u16 [0]) rfl rfl (news_at' _ _ _ _ (by simp [size_plus])) (vals_one _ _) (by unfold maxLen; omega) (by omega) (by simp [size_plus]; omega) ?_; intro v1 w1 hown1 hgr1 _; obtain ⟨C', d', z, rfl, rfl, har⟩ := appended HV.out (Plus.is x5) rfl hown1 hgr1 (hB0 ha.out.bd); have HZ := Lib.hid har; clear har hown1 hgr1)
      refine (less_n h7 _ (ha.out.plus (by repeat' (first | exact Plus.refl _ | refine Plus.alloc ?_ _ | refine Plus.plus ?_ _ | refine Plus.drew ?_ | refine Plus.drewN ?_ _))) (HZ.out.plus (by repeat' (first | exact Plus.refl _ | refine Plus.alloc ?_ _ | refine Plus.plus ?_ _ | refine Plus.drew ?_ | refine Plus.drewN ?_ _)))).mono ?_
      rintro e w1 ⟨rfl, rfl⟩
      go_wp2_with fail
      refine (less_n h6 _ (ha.out.plus (by repeat' (first | exact Plus.refl _ | refine Plus.alloc ?_ _ | refine Plus.plus ?_ _ | refine Plus.drew ?_ | refine Plus.drewN ?_ _))) (ha.out.plus (by repeat' (first | exact Plus.refl _ | refine Plus.alloc ?_ _ | refine Plus.plus ?_ _ | refine Plus.drew ?_ | refine Plus.drewN ?_ _)))).mono ?_
      rintro e w1 ⟨rfl, rfl⟩
      go_wp2_with fail
      go_returns
      exact ⟨rfl, (by repeat' (first | exact Plus.refl _ | refine Plus.alloc ?_ _ | refine Plus.plus ?_ _ | refine Plus.drew ?_ | refine Plus.drewN ?_ _))⟩
    · obtain rfl := h45.out rfl
      clear h45
      go_enter Tryd.func5, Tryd.ntmps5
      go_wp2_with fail
      refine (first_c _ (hL.out.plus (by repeat' (first | exact Plus.refl _ | refine Plus.alloc ?_ _ | refine Plus.plus ?_ _ | refine Plus.drew ?_ | refine Plus.drewN ?_ _)))).mono ?_
      rintro e w1 ⟨rfl, ⟨y0, rfl⟩⟩
      go_wp2_with fail
      refine (less_n h1 _ (ha.out.plus (by repeat' (first | exact Plus.refl _ | refine Plus.alloc ?_ _ | refine Plus.plus ?_ _ | refine Plus.drew ?_ | refine Plus.drewN ?_ _))) (hb.out.plus (by repeat' (first | exact Plus.refl _ | refine Plus.alloc ?_ _ | refine Plus.plus ?_ _ | refine Plus.drew ?_ | refine Plus.drewN ?_ _)))).mono ?_
      rintro e w1 ⟨rfl, rfl⟩
      go_wp2_with fail
      refine (less_n h2 _ (hb.out.plus (by repeat' (first | exact Plus.refl _ | refine Plus.alloc ?_ _ | refine Plus.plus ?_ _ | refine Plus.drew ?_ | refine Plus.drewN ?_ _))) (ha.out.plus (by repeat' (first | exact Plus.refl _ | refine Plus.alloc ?_ _ | refine Plus.plus ?_ _ | refine Plus.drew ?_ | refine Plus.drewN ?_ _)))).mono ?_
      rintro e w1 ⟨rfl, rfl⟩
      go_wp2_with fail
      refine (same_n h3 _ (ha.out.plus (by repeat' (first | exact Plus.refl _ | refine Plus.alloc ?_ _ | refine Plus.plus ?_ _ | refine Plus.drew ?_ | refine Plus.drewN ?_ _))) (hb.out.plus (by repeat' (first | exact Plus.refl _ | refine Plus.alloc ?_ _ | refine Plus.plus ?_ _ | refine Plus.drew ?_ | refine Plus.drewN ?_ _)))).mono ?_
      rintro e w1 ⟨rfl, ⟨y1, rfl⟩⟩
      go_wp2_with fail
      refine (less_n h4 _ (hb.out.plus (by repeat' (first | exact Plus.refl _ | refine Plus.alloc ?_ _ | refine Plus.plus ?_ _ | refine Plus.drew ?_ | refine Plus.drewN ?_ _))) (hc.out.plus (by repeat' (first | exact Plus.refl _ | refine Plus.alloc ?_ _ | refine Plus.plus ?_ _ | refine Plus.drew ?_ | refine Plus.drewN ?_ _)))).mono ?_
      rintro e w1 ⟨rfl, rfl⟩
      go_wp2_with fail
      refine (less_n h5 _ (ha.out.plus (by repeat' (first | exact Plus.refl _ | refine Plus.alloc ?_ _ | refine Plus.plus ?_ _ | refine Plus.drew ?_ | refine Plus.drewN ?_ _))) (hc.out.plus (by repeat' (first | exact Plus.refl _ | refine Plus.alloc ?_ _ | refine Plus.plus ?_ _ | refine Plus.drew ?_ | refine Plus.drewN ?_ _)))).mono ?_
      rintro e w1 ⟨rfl, rfl⟩
      go_wp2_with fail
      refine (first_c _ (hL.out.plus (by repeat' (first | exact Plus.refl _ | refine Plus.alloc ?_ _ | refine Plus.plus ?_ _ | refine Plus.drew ?_ | refine Plus.drewN ?_ _)))).mono ?_
      rintro e w1 ⟨rfl, ⟨y2, rfl⟩⟩
      go_wp2_with fail
      refine (copyUnits_c _ _ _ _ _ (ha.out.plus (by repeat' (first | exact Plus.refl _ | refine Plus.alloc ?_ _ | refine Plus.plus ?_ _ | refine Plus.drew ?_ | refine Plus.drewN ?_ _))) (by omega)).mono ?_
      rintro e w1 ⟨v, rfl, hv0, ⟨x5, rfl⟩⟩
      have HV := Lib.hid hv0
      clear hv0
      go_wp2_with (at_builtin; refine wpList_append_yes (by rfl) _ _ 23 rfl (plus (plus (plus w y0) y1) y2).heap.size 35 i0 (.int .u16 0) 1 2 Tryd.underlying23 hi hz0 hz1 hz2 rfl (by decide) _ _ _ rfl (own_alloc (own_plus HV.out (Plus.refl _)) _) ⟨w.heap.size + y0.blocks.length + y1.blocks.length + y2.blocks.length + x5.blocks.length, 0, none⟩ 1 1 (vals .u16 [0]) rfl rfl (news_at' _ _ _ _ (by simp [size_plus])) (vals_one _ _) (by unfold maxLen; omega) (by omega) (by simp [size_plus]; omega) ?_; intro v1 w1 hown1 hgr1 _; obtain ⟨C', d', z, rfl, rfl, har⟩ := appended HV.out (Plus.is x5) rfl hown1 hgr1 (hB0 ha.out.bd); have HZ := Lib.hid har; clear har hown1 hgr1)
      refine (less_n h7 _ (ha.out.plus (by repeat' (first | exact Plus.refl _ | refine Plus.alloc ?_ _ | refine Plus.plus ?_ _ | refine Plus.drew ?_ | refine Plus.drewN ?_ _))) (HZ.out.plus (by repeat' (first | exact Plus.refl _ | refine Plus.alloc ?_ _ | refine Plus.plus ?_ _ | refine Plus.drew ?_ | refine Plus.drewN ?_ _)))).mono ?_
      rintro e w1 ⟨rfl, rfl⟩
      go_wp2_with fail
      refine (less_n h6 _ (ha.out.plus (by repeat' (first | exact Plus.refl _ | refine Plus.alloc ?_ _ | refine Plus.plus ?_ _ | refine Plus.drew ?_ | refine Plus.drewN ?_ _))) (ha.out.plus (by repeat' (first | exact Plus.refl _ | refine Plus.alloc ?_ _ | refine Plus.plus ?_ _ | refine Plus.drew ?_ | refine Plus.drewN ?_ _)))).mono ?_
      rintro e w1 ⟨rfl, rfl⟩
      go_wp2_with fail
      go_returns
      exact ⟨rfl, (by repeat' (first | exact Plus.refl _ | refine Plus.alloc ?_ _ | refine Plus.plus ?_ _ | refine Plus.drew ?_ | refine Plus.drewN ?_ _))⟩
  all_goals
    go_enter Tryd.func5, Tryd.ntmps5
    go_wp2_with fail
    refine (first_c _ (hL.out.plus (by repeat' (first | exact Plus.refl _ | refine Plus.alloc ?_ _ | refine Plus.plus ?_ _ | refine Plus.drew ?_ | refine Plus.drewN ?_ _)))).mono ?_
    rintro e w1 ⟨rfl, ⟨y0, rfl⟩⟩
    go_wp2_with fail
    refine (less_n h1 _ (ha.out.plus (by repeat' (first | exact Plus.refl _ | refine Plus.alloc ?_ _ | refine Plus.plus ?_ _ | refine Plus.drew ?_ | refine Plus.drewN ?_ _))) (hb.out.plus (by repeat' (first | exact Plus.refl _ | refine Plus.alloc ?_ _ | refine Plus.plus ?_ _ | refine Plus.drew ?_ | refine Plus.drewN ?_ _)))).mono ?_
    rintro e w1 ⟨rfl, rfl⟩
    go_wp2_with fail
    refine (less_n h2 _ (hb.out.plus (by repeat' (first | exact Plus.refl _ | refine Plus.alloc ?_ _ | refine Plus.plus ?_ _ | refine Plus.drew ?_ | refine Plus.drewN ?_ _))) (ha.out.plus (by repeat' (first | exact Plus.refl _ | refine Plus.alloc ?_ _ | refine Plus.plus ?_ _ | refine Plus.drew ?_ | refine Plus.drewN ?_ _)))).mono ?_
    rintro e w1 ⟨rfl, rfl⟩
    go_wp2_with fail
    refine (same_n h3 _ (ha.out.plus (by repeat' (first | exact Plus.refl _ | refine Plus.alloc ?_ _ | refine Plus.plus ?_ _ | refine Plus.drew ?_ | refine Plus.drewN ?_ _))) (hb.out.plus (by repeat' (first | exact Plus.refl _ | refine Plus.alloc ?_ _ | refine Plus.plus ?_ _ | refine Plus.drew ?_ | refine Plus.drewN ?_ _)))).mono ?_
    rintro e w1 ⟨rfl, ⟨y1, rfl⟩⟩
    go_wp2_with fail
    refine (first_c _ (hL.out.plus (by repeat' (first | exact Plus.refl _ | refine Plus.alloc ?_ _ | refine Plus.plus ?_ _ | refine Plus.drew ?_ | refine Plus.drewN ?_ _)))).mono ?_
    rintro e w1 ⟨rfl, ⟨y2, rfl⟩⟩
    go_wp2_with fail
    refine (copyUnits_c _ _ _ _ _ (ha.out.plus (by repeat' (first | exact Plus.refl _ | refine Plus.alloc ?_ _ | refine Plus.plus ?_ _ | refine Plus.drew ?_ | refine Plus.drewN ?_ _))) (by omega)).mono ?_
    rintro e w1 ⟨v, rfl, hv0, ⟨x5, rfl⟩⟩
    have HV := Lib.hid hv0
    clear hv0
    go_wp2_with (at_builtin; refine wpList_append_yes (by rfl) _ _ 23 rfl (plus (plus (plus w y0) y1) y2).heap.size 35 i0 (.int .u16 0) 1 2 Tryd.underlying23 hi hz0 hz1 hz2 rfl (by decide) _ _ _ rfl (own_alloc (own_plus HV.out (Plus.refl _)) _) ⟨w.heap.size + y0.blocks.length + y1.blocks.length + y2.blocks.length + x5.blocks.length, 0, none⟩ 1 1 (vals .u16 [0]) rfl rfl (news_at' _ _ _ _ (by simp [size_plus])) (vals_one _ _) (by unfold maxLen; omega) (by omega) (by simp [size_plus]; omega) ?_; intro v1 w1 hown1 hgr1 _; obtain ⟨C', d', z, rfl, rfl, har⟩ := appended HV.out (Plus.is x5) rfl hown1 hgr1 (hB0 ha.out.bd); have HZ := Lib.hid har; clear har hown1 hgr1)
    refine (less_n h7 _ (ha.out.plus (by repeat' (first | exact Plus.refl _ | refine Plus.alloc ?_ _ | refine Plus.plus ?_ _ | refine Plus.drew ?_ | refine Plus.drewN ?_ _))) (HZ.out.plus (by repeat' (first | exact Plus.refl _ | refine Plus.alloc ?_ _ | refine Plus.plus ?_ _ | refine Plus.drew ?_ | refine Plus.drewN ?_ _)))).mono ?_
    rintro e w1 ⟨rfl, rfl⟩
    go_wp2_with fail
    refine (less_n h6 _ (ha.out.plus (by repeat' (first | exact Plus.refl _ | refine Plus.alloc ?_ _ | refine Plus.plus ?_ _ | refine Plus.drew ?_ | refine Plus.drewN ?_ _))) (ha.out.plus (by repeat' (first | exact Plus.refl _ | refine Plus.alloc ?_ _ | refine Plus.plus ?_ _ | refine Plus.drew ?_ | refine Plus.drewN ?_ _)))).mono ?_
    rintro e w1 ⟨rfl, rfl⟩
    go_wp2_with fail
    go_returns
    exact ⟨rfl, (by repeat' (first | exact Plus.refl _ | refine Plus.alloc ?_ _ | refine Plus.plus ?_ _ | refine Plus.drew ?_ | refine Plus.drewN ?_ _))⟩

set_option maxRecDepth 100000 in
set_option maxHeartbeats 4000000 in
theorem orders_few (A C E : Option Addr) (n c m d k l : Nat) (w : World) (hL : Hid (Lai w)) (hf : ¬ (n ≤ 5000 ∧ m ≤ 5000 ∧ k ≤ 5000)) :
    Calls Tryd.prog 5 #[.slice A n c, .slice C m d, .slice E k l] w fun e w' => e = .returned (.bool true) ∧ Plus w w' := by
  have h3 : 5000 < n ∨ n ≤ 5000 ∧ 5000 < m ∨ n ≤ 5000 ∧ m ≤ 5000 ∧ 5000 < k := by omega
  clear hf
  rcases h3 with f1 | ⟨f1, f2⟩ | ⟨f1, f2, f3⟩
  all_goals
    go_enter Tryd.func5, Tryd.ntmps5
    go_wp2_with fail
    refine (first_c _ (hL.out.plus (by repeat' (first | exact Plus.refl _ | refine Plus.alloc ?_ _ | refine Plus.plus ?_ _ | refine Plus.drew ?_ | refine Plus.drewN ?_ _)))).mono ?_
    rintro e w1 ⟨rfl, ⟨y0, rfl⟩⟩
    go_wp2_with fail
    refine (first_c _ (hL.out.plus (by repeat' (first | exact Plus.refl _ | refine Plus.alloc ?_ _ | refine Plus.plus ?_ _ | refine Plus.drew ?_ | refine Plus.drewN ?_ _)))).mono ?_
    rintro e w1 ⟨rfl, ⟨y1, rfl⟩⟩
    go_wp2_with fail
    go_returns
    exact ⟨rfl, (by repeat' (first | exact Plus.refl _ | refine Plus.alloc ?_ _ | refine Plus.plus ?_ _ | refine Plus.drew ?_ | refine Plus.drewN ?_ _))⟩

theorem cmp_self (xs : List Nat) : cmpL xs xs = 0 := by
  induction xs with
  | nil => rfl
  | cons a l ih => unfold cmpL; rw [if_neg (by omega), if_neg (by omega)]; exact ih
theorem cmp_rev : ∀ xs ys : List Nat, cmpL ys xs = - cmpL xs ys
  | [], [] => rfl
  | [], _ :: _ => by unfold cmpL; rfl
  | _ :: _, [] => by unfold cmpL; rfl
  | a :: l, b :: r => by
    unfold cmpL
    rcases Nat.lt_trichotomy a b with h | h | h
    · rw [if_neg (by omega), if_pos h, if_pos h]; rfl
    · subst h; simp only [Nat.lt_irrefl, if_false]; exact cmp_rev l r
    · rw [if_pos h, if_neg (by omega), if_pos h]
theorem cmp_zero : ∀ xs ys : List Nat, cmpL xs ys = 0 → xs = ys
  | [], [], _ => rfl
  | [], _ :: _, h => by unfold cmpL at h; omega
  | _ :: _, [], h => by unfold cmpL at h; omega
  | a :: l, b :: r, h => by
    unfold cmpL at h
    rcases Nat.lt_trichotomy a b with q | q | q
    · rw [if_pos q] at h; omega
    · subst q; rw [if_neg (by omega), if_neg (by omega)] at h; rw [cmp_zero l r h]
    · rw [if_neg (by omega), if_pos q] at h; omega
theorem cmp_bd : ∀ xs ys : List Nat, -1 ≤ cmpL xs ys ∧ cmpL xs ys ≤ 1
  | [], [] => by unfold cmpL; omega
  | [], _ :: _ => by unfold cmpL; omega
  | _ :: _, [] => by unfold cmpL; omega
  | a :: l, b :: r => by
    unfold cmpL
    have := cmp_bd l r
    (repeat' split) <;> omega
theorem cmp_trans : ∀ xs ys zs : List Nat, cmpL xs ys < 0 → cmpL ys zs < 0 → cmpL xs zs < 0
  | [], [], _, h, _ => by unfold cmpL at h; omega
  | [], _ :: _, [], _, h => by unfold cmpL at h; omega
  | [], _ :: _, _ :: _, _, _ => by unfold cmpL; omega
  | _ :: _, [], _, h, _ => by unfold cmpL at h; omega
  | _ :: _, _ :: _, [], _, h => by unfold cmpL at h; omega
  | a :: l, b :: r, c :: t, h, k => by
    unfold cmpL at h k ⊢
    have ih := cmp_trans l r t
    (repeat' split at h) <;> (repeat' split at k) <;> (repeat' split) <;> first | omega | exact ih (by omega) (by omega)
theorem cmp_snoc : ∀ (xs : List Nat) (x : Nat), cmpL xs (xs ++ [x]) = -1
  | [], _ => by unfold cmpL; rfl
  | a :: l, x => by
    rw [List.cons_append]
    unfold cmpL
    rw [if_neg (by omega), if_neg (by omega)]
    exact cmp_snoc l x
set_option maxHeartbeats 4000000 in
theorem orders_w (A C E : Option Addr) (xs ys zs : List Nat) (n c m d k l : Nat) (w : World) (hL : Lai w) (ha : Ar .u16 65536 w A xs n c) (hb : Ar .u16 65536 w C ys m d) (hc : Ar .u16 65536 w E zs k l) :
    Calls Tryd.prog 5 #[.slice A n c, .slice C m d, .slice E k l] w fun e w' => e = .returned (.bool true) ∧ Plus w w' := by
  by_cases hf : n ≤ 5000 ∧ m ≤ 5000 ∧ k ≤ 5000
  · obtain ⟨f1, f2, f3⟩ := hf
    refine orders_h A C E xs ys zs n c m d k l w (Lib.hid hL) (Lib.hid ha) (Lib.hid hb) (Lib.hid hc) f1 f2 f3 _ _ _ _ _ (Lib.hid rfl) (Lib.hid rfl) (Lib.hid rfl) (Lib.hid rfl) (Lib.hid rfl) (Lib.hid ?_) (Lib.hid ?_) (Lib.hid ?_)
    · unfold lessL; rw [cmp_self]; rfl
    · unfold lessL; rw [cmp_snoc]; rfl
    · unfold lessL
      rw [cmp_rev xs ys]
      have tr := cmp_trans xs ys zs
      have z0 := cmp_zero xs ys
      by_cases he : xs = ys
      · right; right
        subst he
        simp [cmp_self]
      · have hn : cmpL xs ys ≠ 0 := fun q => he (z0 q)
        by_cases hlt : cmpL xs ys < 0
        · left
          have h2 : ¬ (- cmpL xs ys < 0) := by omega
          refine ⟨by simpa using hlt, by simpa using h2, by simpa using he, fun q => ?_⟩
          simp at q ⊢
          exact tr hlt q
        · right; left
          have h2 : (- cmpL xs ys < 0) := by omega
          exact ⟨by simpa using hlt, by simpa using h2, by simpa using he⟩
  · exact orders_few A C E n c m d k l w (Lib.hid hL) hf
end Go.Proofs.YtlbjjkiflcjkgaaDoor
