/- Contract: conv.Strict. -/
import Derived.Test.YtakahpbondaidaaGreatDoorPZJ
namespace Go.Proofs.YtakahpbondaidaaGreatDoor
open Go.RowKit

theorem mayV_cases {k p q : Int} {g : Bool} {xs us : List Nat} {r : Int} (h : mayV k p q g xs us r = true) :
  ((k = 0 ∨ k = 1) ∧ p = 0 ∧ q = 0 ∧ g = false ∧ xs = [] ∧ us = [] ∧ r = 0) ∨
  (k = 2 ∧ p = 0 ∧ q = 0 ∧ g = false ∧ xs = [] ∧ us = [] ∧ (r = 0 ∨ r = 1)) ∨
  (k = 3 ∧ mayB p q = true ∧ g = false ∧ xs = [] ∧ us = [] ∧ r = 0) ∨
  (k = 4 ∧ p = 0 ∧ q = 0 ∧ Bg.mayL g xs = true ∧ us = [] ∧ r = 0) ∨
  (k = 5 ∧ p = 0 ∧ q = 0 ∧ g = false ∧ xs = [] ∧ us.length ≤ 4096 ∧ r = 0) ∨
  (k = 6 ∧ p = 0 ∧ q = 0 ∧ g = false ∧ xs = [] ∧ us = [] ∧ 0 ≤ r) := by
  unfold mayV at h
  exact of_decide_eq_true h
/-- A valid value, with all its fields. -/
theorem NV.gen {w : World} {v' : Value} {x : JV} (h : NV w v' x) : ∃ (k p q : Int) (g : Bool) (A C : Option Addr) (xs us : List Nat) (n c m d : Nat) (r : Int), v' = (Value.agg #[.int .i64 k, .int .i64 p, .int .i64 q, .bool g, .slice A n c, .slice C m d, .int .i64 r]) ∧ VM w A xs n c C us m d ∧ n ≤ 1048576 ∧ jv k p q g xs us r = x ∧ mayV k p q g xs us r = true := by
  cases x with
  | undef =>
    obtain ⟨A, C, c, d, rfl, h1, h2⟩ := h
    exact ⟨_, _, _, _, _, _, [], [], _, _, _, _, _, rfl, ⟨Ar.nil _ _ _ _ h1 _, Ar.nil _ _ _ _ h2 _⟩, by omega, rfl, rfl⟩
  | null =>
    obtain ⟨A, C, c, d, rfl, h1, h2⟩ := h
    exact ⟨_, _, _, _, _, _, [], [], _, _, _, _, _, rfl, ⟨Ar.nil _ _ _ _ h1 _, Ar.nil _ _ _ _ h2 _⟩, by omega, rfl, rfl⟩
  | bool b =>
    obtain ⟨A, C, c, d, rfl, h1, h2⟩ := h
    refine ⟨_, _, _, _, _, _, [], [], _, _, _, _, _, rfl, ⟨Ar.nil _ _ _ _ h1 _, Ar.nil _ _ _ _ h2 _⟩, by omega, ?_, ?_⟩ <;> cases b <;> rfl
  | num p q =>
    obtain ⟨A, C, c, d, rfl, h1, h2, h3⟩ := h
    have e : mayV 3 p q false [] [] 0 = true := by unfold mayV; simp [mayB_isV h3]
    exact ⟨_, _, _, _, _, _, [], [], _, _, _, _, _, rfl, ⟨Ar.nil _ _ _ _ h1 _, Ar.nil _ _ _ _ h2 _⟩, by omega, by unfold jv; rw [if_pos e]; rfl, e⟩
  | big z =>
    obtain ⟨g, A, C, xs, n, c, d, rfl, h1, h2, rfl, h4⟩ := h
    have e : mayV 4 0 0 g xs [] 0 = true := by unfold mayV; simp [h2]
    exact ⟨_, _, _, _, _, _, xs, [], _, _, _, _, _, rfl, ⟨ar_arg h4, Ar.nil _ _ _ _ h1 _⟩, by have := h4.few; have := h4.len; omega, by unfold jv; rw [if_pos e]; rfl, e⟩
  | text us =>
    obtain ⟨A, C, c, m, d, rfl, h1, h2, h3⟩ := h
    have e : mayV 5 0 0 false [] us 0 = true := by unfold mayV; simp [h2]
    exact ⟨_, _, _, _, _, _, [], us, _, _, _, _, _, rfl, ⟨Ar.nil _ _ _ _ h1 _, h3⟩, by omega, by unfold jv; rw [if_pos e]; rfl, e⟩
  | obj r =>
    obtain ⟨A, C, c, d, rfl, h1, h2, h3⟩ := h
    have e : mayV 6 0 0 false [] [] r = true := by unfold mayV; simp [h3]
    exact ⟨_, _, _, _, _, _, [], [], _, _, _, _, _, rfl, ⟨Ar.nil _ _ _ _ h1 _, Ar.nil _ _ _ _ h2 _⟩, by omega, by unfold jv; rw [if_pos e]; rfl, e⟩
/-- A valid value stays what it is. -/
theorem NV.vld {w : World} {v' : Value} {x : JV} (h : NV w v' x) : Vld w v' v' := by
  obtain ⟨k, p, q, g, A, C, xs, us, n, c, m, d, r, rfl, hm, hf, _, hv⟩ := h.gen
  exact fun w1 hp => valid_y (Lib.hid hv) w1 (Lib.hid (hm.plus hp)) hf
theorem big_inj {g h : Bool} {xs ys : List Nat} (o1 : Bg.okL xs) (o2 : Bg.okL ys) (h1 : Bg.mayL g xs = true) (h2 : Bg.mayL h ys = true) : (Bg.bigI g xs = Bg.bigI h ys) ↔ (g = h ∧ xs = ys) := by
  constructor
  · intro e
    obtain ⟨a1, a2, _⟩ := Bg.may_yes o1 h1
    obtain ⟨b1, b2, _⟩ := Bg.may_yes o2 h2
    rw [e] at a1 a2
    exact ⟨a2.trans b2.symm, a1.trans b1.symm⟩
  · rintro ⟨rfl, rfl⟩; rfl
end Go.Proofs.YtakahpbondaidaaGreatDoor
namespace Go.Proofs.YtakahpbondaidaaGreatDoor
open Go.RowKit

theorem cnum_n {p q : Int} (w : World) : Calls Tryz.prog 49 #[.agg #[.int .i64 p, .int .i64 q]] w fun e w' => e = .returned (Value.agg #[.int .i64 3, .int .i64 p, .int .i64 q, .bool false, .slice none 0 0, .slice none 0 0, .int .i64 0]) ∧ Plus w w' := cnum_c p q w
theorem nv_num {p q : Int} (w : World) (h : IsV p q) : NV w (Value.agg #[.int .i64 3, .int .i64 p, .int .i64 q, .bool false, .slice none 0 0, .slice none 0 0, .int .i64 0]) (.num p q) := ⟨none, none, 0, 0, rfl, by omega, by omega, h⟩
end Go.Proofs.YtakahpbondaidaaGreatDoor
namespace Go.Proofs.YtakahpbondaidaaGreatDoor
open Go.RowKit

theorem nv_text {D : Option Addr} {us : List Nat} {m k : Nat} {w : World} (h : Ar .u16 65536 w D us m k) (hl : us.length ≤ 4096) : NV w (Value.agg #[.int .i64 5, .int .i64 0, .int .i64 0, .bool false, .slice none 0 0, .slice D m k, .int .i64 0]) (.text us) := ⟨none, D, 0, m, k, rfl, by omega, hl, h⟩
theorem nv_big {D : Option Addr} {z k : Nat} {w : World} (h : Ar .u32 4294967296 w D [z] 1 k) (h0 : z ≠ 0) : NV w (Value.agg #[.int .i64 4, .int .i64 0, .int .i64 0, .bool false, .slice D 1 k, .slice none 0 0, .int .i64 0]) (.big z) :=
  ⟨false, D, none, [z], 1, k, 0, rfl, by omega, by simp [Bg.mayL, Bg.lim, h0], by simp [Bg.bigI, Bg.mayL, Bg.lim, h0, Bg.sgn, Bg.val], arg_ar h (by omega)⟩
end Go.Proofs.YtakahpbondaidaaGreatDoor

namespace Go.Proofs.YtakahpbondaidaaGreatDoor
open Go.RowKit

set_option maxRecDepth 100000 in
set_option maxHeartbeats 4000000 in
theorem few_y {k p q : Int} {g : Bool} {A C : Option Addr} {n c m d : Nat} {r : Int} (w : World) (h1 : m ≤ 20000) (h2 : decide ((n : Int) ≤ 40) = true) : Calls Tryz.prog 7 #[Value.agg #[.int .i64 k, .int .i64 p, .int .i64 q, .bool g, .slice A n c, .slice C m d, .int .i64 r]] w fun e w' => e = .returned (.bool true) ∧ Plus w w' := by
  go_enter Tryz.func7, Tryz.ntmps7
  go_wp2_with fail
  go_returns
  exact ⟨rfl, (by repeat' (first | exact Plus.refl _ | refine Plus.alloc ?_ _ | refine Plus.plus ?_ _ | refine Plus.drew ?_ | refine Plus.drewN ?_ _))⟩
set_option maxRecDepth 100000 in
set_option maxHeartbeats 4000000 in
theorem few_n1 {k p q : Int} {g : Bool} {A C : Option Addr} {n c m d : Nat} {r : Int} (w : World) (h1 : ¬ m ≤ 20000) : Calls Tryz.prog 7 #[Value.agg #[.int .i64 k, .int .i64 p, .int .i64 q, .bool g, .slice A n c, .slice C m d, .int .i64 r]] w fun e w' => e = .returned (.bool false) ∧ Plus w w' := by
  go_enter Tryz.func7, Tryz.ntmps7
  go_wp2_with fail
  go_returns
  exact ⟨rfl, (by repeat' (first | exact Plus.refl _ | refine Plus.alloc ?_ _ | refine Plus.plus ?_ _ | refine Plus.drew ?_ | refine Plus.drewN ?_ _))⟩
set_option maxRecDepth 100000 in
set_option maxHeartbeats 4000000 in
theorem few_n2 {k p q : Int} {g : Bool} {A C : Option Addr} {n c m d : Nat} {r : Int} (w : World) (h1 : m ≤ 20000) (h2 : decide ((n : Int) ≤ 40) = false) : Calls Tryz.prog 7 #[Value.agg #[.int .i64 k, .int .i64 p, .int .i64 q, .bool g, .slice A n c, .slice C m d, .int .i64 r]] w fun e w' => e = .returned (.bool false) ∧ Plus w w' := by
  go_enter Tryz.func7, Tryz.ntmps7
  go_wp2_with fail
  go_returns
  exact ⟨rfl, (by repeat' (first | exact Plus.refl _ | refine Plus.alloc ?_ _ | refine Plus.plus ?_ _ | refine Plus.drew ?_ | refine Plus.drewN ?_ _))⟩
def fewB (m n : Nat) : Bool := decide (m ≤ 20000 ∧ n ≤ 40)
theorem few_v {k p q : Int} {g : Bool} {A C : Option Addr} {n c m d : Nat} {r : Int} {z : Bool} (hz : Hid (fewB m n = z)) (w : World) : Calls Tryz.prog 7 #[Value.agg #[.int .i64 k, .int .i64 p, .int .i64 q, .bool g, .slice A n c, .slice C m d, .int .i64 r]] w fun e w' => e = .returned (.bool z) ∧ Plus w w' := by
  obtain rfl := hz.out
  by_cases h1 : m ≤ 20000
  · by_cases h2 : n ≤ 40
    · rw [show fewB m n = true by simp [fewB, h1, h2]]
      exact few_y w h1 (by simp; omega)
    · rw [show fewB m n = false by simp [fewB, h2]]
      exact few_n2 w h1 (by simp; omega)
  · rw [show fewB m n = false by simp [fewB, h1]]
    exact few_n1 w h1
theorem few_of {m n : Nat} (h : fewB m n = true) : m ≤ 20000 ∧ n ≤ 40 := by unfold fewB at h; exact of_decide_eq_true h
def okJ : JV → Prop
  | .num p q => IsV p q
  | .big z => z.natAbs < Bg.B ^ 8
  | .text us => us.length ≤ 4096 ∧ ∀ x ∈ us, x < 65536
  | _ => True
theorem NV.ok {w : World} {v : Value} {x : JV} (h : NV w v x) : okJ x := by
  cases x with
  | num p q => obtain ⟨A, C, c, d, _, _, _, h3⟩ := h; exact h3
  | big z => obtain ⟨g, A, C, xs, n, c, d, _, _, _, rfl, h4⟩ := h; exact Bg.bigI_abs h4.lim.1
  | text us => obtain ⟨A, C, c, m, d, _, _, h2, h3⟩ := h; exact ⟨h2, h3.bd⟩
  | _ => trivial
end Go.Proofs.YtakahpbondaidaaGreatDoor
namespace Go.Proofs.YtakahpbondaidaaGreatDoor
open Go.RowKit

def blankB (x : Nat) : Bool := x == 32 || x == 9 || x == 10 || x == 13
theorem dw_all {p : UInt8 → Bool} : ∀ a b : List UInt8, (∀ x ∈ a, p x = true) → (a ++ b).dropWhile p = b.dropWhile p
  | [], _, _ => rfl
  | x :: a, b, h => by
    rw [List.cons_append, List.dropWhile_cons, if_pos (h x (by simp))]
    exact dw_all a b fun y hy => h y (List.mem_cons_of_mem _ hy)
theorem dw_some {p : UInt8 → Bool} : ∀ a b : List UInt8, (∃ x ∈ a, p x = false) → (a ++ b).dropWhile p = a.dropWhile p ++ b
  | [], _, h => by obtain ⟨x, hx, _⟩ := h; simp at hx
  | x :: a, b, h => by
    rw [List.cons_append, List.dropWhile_cons, List.dropWhile_cons]
    by_cases q : p x = true
    · rw [if_pos q, if_pos q]
      refine dw_some a b ?_
      obtain ⟨y, hy, hy2⟩ := h
      rcases List.mem_cons.1 hy with e | e
      · rw [e, q] at hy2; cases hy2
      · exact ⟨y, e, hy2⟩
    · rw [if_neg q, if_neg q]; rfl
theorem trim_around (c b1 l b2 : List UInt8) (h1 : ∀ x ∈ b1, c.contains x = true) (h2 : ∀ x ∈ b2, c.contains x = true) : Lib.trimS (b1 ++ l ++ b2) c = Lib.trimS l c := by
  unfold Lib.trimS
  have e1 : Lib.trimRightS (b1 ++ l ++ b2) c = Lib.trimRightS (b1 ++ l) c := by
    unfold Lib.trimRightS
    rw [List.reverse_append, dw_all _ _ (fun x hx => h2 x (List.mem_reverse.1 hx))]
  rw [e1]
  by_cases hl : ∃ x ∈ l, c.contains x = false
  · have e2 : Lib.trimRightS (b1 ++ l) c = b1 ++ Lib.trimRightS l c := by
      unfold Lib.trimRightS
      rw [List.reverse_append, dw_some _ _ (by obtain ⟨x, hx, hx2⟩ := hl; exact ⟨x, List.mem_reverse.2 hx, hx2⟩), List.reverse_append, List.reverse_reverse]
    rw [e2]
    unfold Lib.trimLeftS
    exact dw_all _ _ h1
  · have hl2 : ∀ x ∈ l, c.contains x = true := fun x hx => by
      cases q : c.contains x
      · exact absurd ⟨x, hx, q⟩ hl
      · rfl
    have e3 : Lib.trimRightS l c = [] := by
      unfold Lib.trimRightS
      have := dw_all (p := (c.contains ·)) l.reverse [] (fun x hx => hl2 x (List.mem_reverse.1 hx))
      rw [List.append_nil] at this
      rw [this]
      rfl
    have e4 : Lib.trimRightS (b1 ++ l) c = [] := by
      unfold Lib.trimRightS
      have := dw_all (p := (c.contains ·)) (b1 ++ l).reverse [] (fun x hx => by
        rcases List.mem_append.1 (List.mem_reverse.1 hx) with h | h
        · exact h1 x h
        · exact hl2 x h)
      rw [List.append_nil] at this
      rw [this]
      rfl
    rw [e3, e4]
theorem blank_in {b : List Nat} (h : b.all blankB = true) : ∀ x ∈ b.map Nat.toUInt8, blankS.contains x = true := fun x hx => by
  obtain ⟨y, hy, rfl⟩ := List.mem_map.1 hx
  have := List.all_eq_true.1 h y hy
  unfold blankB at this
  simp at this
  rcases this with ((rfl | rfl) | rfl) | rfl <;> decide
theorem blank_low {b : List Nat} (h : b.all blankB = true) : low b = true := by
  unfold low
  rw [List.all_eq_true] at h ⊢
  intro x hx
  have := h x hx
  unfold blankB at this
  simp at this
  simp
  omega
theorem num_around {b1 xs b2 : List Nat} (h1 : b1.all blankB = true) (h2 : b2.all blankB = true) : numU (b1 ++ xs ++ b2) = numU xs := by
  have e : low (b1 ++ xs ++ b2) = low xs := by
    have l1 := blank_low h1
    have l2 := blank_low h2
    unfold low at l1 l2 ⊢
    rw [List.all_append, List.all_append, l1, l2]
    simp
  unfold numU
  rw [e, List.map_append, List.map_append, trim_around _ _ _ _ (blank_in h1) (blank_in h2)]
theorem dw_to_nil {p : UInt8 → Bool} : ∀ l : List UInt8, (∀ x ∈ l, p x = true) → l.dropWhile p = []
  | [], _ => rfl
  | x :: l, h => by rw [List.dropWhile_cons, if_pos (h x (by simp))]; exact dw_to_nil l fun y hy => h y (List.mem_cons_of_mem _ hy)
theorem trim_all (l c : List UInt8) (h : ∀ x ∈ l, c.contains x = true) : Lib.trimS l c = [] := by
  unfold Lib.trimS Lib.trimRightS
  rw [dw_to_nil l.reverse (fun x hx => h x (List.mem_reverse.1 hx))]
  rfl
/-- Digits without the noughts ahead are the digits of their number. -/
theorem dd_push (m d : Nat) (hm : 0 < m) (hd : d < 10) : Lib.decDigits (10 * m + d) = Lib.decDigits m ++ [UInt8.ofNat (48 + d)] := by
  rw [Lib.decDigits, dif_neg (by omega), show (10 * m + d) / 10 = m by omega, show (10 * m + d) % 10 = d by omega]
def valU (l : List UInt8) : Nat := l.foldl (fun n x => 10 * n + (x.toNat - 48)) 0
theorem val_dd : ∀ (m : Nat), valU (Lib.decDigits m) = m := fun m => by
  induction m using Nat.strongRecOn with
  | _ m ih =>
    by_cases h : m < 10
    · rw [Lib.decDigits_one h]
      show 10 * 0 + ((UInt8.ofNat (48 + m)).toNat - 48) = m
      rw [UInt8.toNat_ofNat']
      omega
    · rw [Lib.decDigits, dif_neg h]
      unfold valU
      rw [List.foldl_append]
      show 10 * valU (Lib.decDigits (m / 10)) + ((UInt8.ofNat (48 + m % 10)).toNat - 48) = m
      rw [ih (m / 10) (by omega), UInt8.toNat_ofNat']
      omega
theorem itoa_minus {v : Int} (h : v < 0) : ∃ r, Lib.itoa v = 45 :: r := by
  unfold Lib.itoa
  rw [if_pos h]
  exact ⟨_, rfl⟩
/-- A number of digits that is too great has no number. -/
theorem par_over {m : Nat} (hm : 9007199254740991 < m) : parS (Lib.decDigits m) = ⟨2, 0, false⟩ := by
  unfold parS
  rw [if_neg (not_name (dd_dig m) 78 _ (by decide)), if_neg (not_name (dd_dig m) 73 _ (by decide)), if_neg (not_name (dd_dig m) 45 _ (by decide))]
  split
  · rename_i v hv
    by_cases hi : Lib.itoa v = Lib.decDigits m
    · rw [if_pos hi]
      have hv2 : v = (m : Int) := by
        by_cases hn : v < 0
        · obtain ⟨r, hr⟩ := itoa_minus hn
          rw [hr] at hi
          have := dd_dig m 45 (by rw [← hi]; simp)
          exact absurd this.1 (by decide)
        · obtain ⟨u, rfl⟩ : ∃ u : Nat, v = u := ⟨v.toNat, by omega⟩
          rw [Lib.itoa_nonneg] at hi
          have e := congrArg valU hi
          rw [val_dd, val_dd] at e
          omega
      subst hv2
      unfold ofS
      rw [if_neg (by omega)]
    · rw [if_neg hi]
  · rfl

theorem wholeR_0 {z : Int} (h1 : -9007199254740991 ≤ z) (h2 : z ≤ 9007199254740991) : wholeR 0 z = ⟨0, z⟩ := by
  unfold wholeR
  have hv : IsV 0 z := .inl ⟨rfl, h1, h2⟩
  rw [vk_of hv, vn_of hv]
  unfold wholeS
  rw [if_neg (by decide)]
theorem par_dd' {m : Nat} (hm : m ≤ 9007199254740991) : parS (Lib.decDigits m) = ⟨0, m, true⟩ := by
  rw [par_all (by omega), if_pos hm]
end Go.Proofs.YtakahpbondaidaaGreatDoor
