/- OperLess at every value. -/
import Derived.Test.YtgljfgkkolfnbaaGreatDoorL7vz
import Derived.Test.YtgljfgkkolfnbaaGreatDoorL7wz
import Derived.Test.YtgljfgkkolfnbaaGreatDoorJ4z
import Derived.Test.YtgljfgkkolfnbaaGreatDoorOJ
import Derived.Test.YtgljfgkkolfnbaaGreatDoorO14cz
import Derived.Test.YtgljfgkkolfnbaaGreatDoorV16z
namespace Go.Proofs.YtgljfgkkolfnbaaGreatDoor
open Go.RowKit

theorem nv_of_may (k p q : Int) (g : Bool) (A C : Option Addr) (xs us : List Nat) (n c m d : Nat) (r : Int) (w : World) (h : VM w A xs n c C us m d) (hf : n ≤ 1048576) (hm : mayV k p q g xs us r = true) : NV w (Value.agg #[.int .i64 k, .int .i64 p, .int .i64 q, .bool g, .slice A n c, .slice C m d, .int .i64 r]) (jv k p q g xs us r) := by
  unfold jv
  rw [if_pos hm]
  have hn : n = xs.length := h.b.len
  have hM : m = us.length := h.s.len
  have hcm := h.b.max
  have hdm := h.s.max
  unfold mayV at hm
  rcases of_decide_eq_true hm with ⟨hk, rfl, rfl, rfl, rfl, rfl, rfl⟩ | ⟨rfl, rfl, rfl, rfl, rfl, rfl, hr⟩ | ⟨rfl, hb, rfl, rfl, rfl, rfl⟩ | ⟨rfl, rfl, rfl, hb, rfl, rfl⟩ | ⟨rfl, rfl, rfl, rfl, rfl, hb, rfl⟩ | ⟨rfl, rfl, rfl, rfl, rfl, rfl, hr⟩
  · obtain rfl : n = 0 := hn
    obtain rfl : m = 0 := hM
    rcases hk with rfl | rfl
    · exact ⟨_, _, _, _, rfl, hcm, hdm⟩
    · exact ⟨_, _, _, _, rfl, hcm, hdm⟩
  · obtain rfl : n = 0 := hn
    obtain rfl : m = 0 := hM
    rcases hr with rfl | rfl
    · exact ⟨_, _, _, _, rfl, hcm, hdm⟩
    · exact ⟨_, _, _, _, rfl, hcm, hdm⟩
  · obtain rfl : n = 0 := hn
    obtain rfl : m = 0 := hM
    exact ⟨_, _, _, _, rfl, hcm, hdm, isV_of_mayB hb⟩
  · obtain rfl : m = 0 := hM
    exact ⟨_, _, _, _, _, _, _, rfl, hdm, hb, rfl, arg_ar h.b hf⟩
  · obtain rfl : n = 0 := hn
    exact ⟨_, _, _, _, _, rfl, hcm, hb, h.s⟩
  · obtain rfl : n = 0 := hn
    obtain rfl : m = 0 := hM
    exact ⟨_, _, _, _, rfl, hcm, hdm, hr⟩
theorem cmpL_anti : ∀ a b : List Nat, cmpL b a = - cmpL a b
  | [], [] => rfl
  | [], _ :: _ => rfl
  | _ :: _, [] => rfl
  | x :: l, y :: r => by
    unfold cmpL
    by_cases h : x < y
    · have h2 : ¬ y < x := by omega
      simp [h, h2]
    · by_cases h2 : y < x
      · simp [h, h2]
      · simp [h, h2]
        exact cmpL_anti l r
theorem cmpL_zero : ∀ a b : List Nat, cmpL a b = 0 ↔ a = b
  | [], [] => by simp [cmpL]
  | [], _ :: _ => by simp [cmpL]
  | _ :: _, [] => by simp [cmpL]
  | x :: l, y :: r => by
    unfold cmpL
    by_cases h : x < y
    · rw [if_pos h]; constructor
      · intro e; exact absurd e (by decide)
      · intro e; injection e with e1 _; omega
    · by_cases h2 : y < x
      · rw [if_neg h, if_pos h2]; constructor
        · intro e; exact absurd e (by decide)
        · intro e; injection e with e1 _; omega
      · rw [if_neg h, if_neg h2]
        obtain rfl : x = y := by omega
        rw [cmpL_zero l r]
        simp
theorem cmpL_trans : ∀ a b c : List Nat, cmpL a b < 0 → cmpL b c < 0 → cmpL a c < 0
  | [], [], _ => fun h => absurd h (by simp [cmpL])
  | _ :: _, [], _ => fun h => absurd h (by simp [cmpL])
  | [], _ :: _, [] => fun _ h => absurd h (by simp [cmpL])
  | [], _ :: _, _ :: _ => fun _ _ => by simp [cmpL]
  | _ :: _, _ :: _, [] => fun _ h => absurd h (by simp [cmpL])
  | x :: l, y :: r, z :: s => by
    unfold cmpL
    intro h1 h2
    by_cases a1 : x < y
    · by_cases b1 : y < z
      · rw [if_pos (by omega)]; decide
      · rw [if_neg b1] at h2
        by_cases b2 : z < y
        · rw [if_pos b2] at h2; exact absurd h2 (by decide)
        · rw [if_pos (by omega)]; decide
    · rw [if_neg a1] at h1
      by_cases a2 : y < x
      · rw [if_pos a2] at h1; exact absurd h1 (by decide)
      · rw [if_neg a2] at h1
        by_cases b1 : y < z
        · rw [if_pos (by omega)]; decide
        · rw [if_neg b1] at h2
          by_cases b2 : z < y
          · rw [if_pos b2] at h2; exact absurd h2 (by decide)
          · rw [if_neg b2] at h2
            rw [if_neg (by omega), if_neg (by omega)]
            exact cmpL_trans l r s h1 h2
theorem cmpZ_d (a b : Int) : decide (Bg.cmpZ a b < 0) = decide (a < b) := by
  by_cases h : a < b
  · rw [Bg.cmpZ_lt h]; simp [h]
  · by_cases e : a = b
    · subst e; rw [Bg.cmpZ_self]; simp
    · rw [Bg.cmpZ_gt (by omega)]; simp [h]
/-- Three truths of which one holds, and that they carry over. -/
structure Tri (lab lba lbc lac eab : Bool) : Prop where
  one : (lab = true ∧ lba = false ∧ eab = false) ∨ (lab = false ∧ lba = true ∧ eab = false) ∨ (lab = false ∧ lba = false ∧ eab = true)
  tr : lab = true → lbc = true → lac = true
theorem tri_txt (a b c : List Nat) : Tri (lessL a b) (lessL b a) (lessL b c) (lessL a c) (decide (a = b)) := by
  have h1 := cmpL_anti a b
  have h2 := cmpL_zero a b
  refine ⟨?_, ?_⟩
  · unfold lessL
    by_cases e : a = b
    · have := h2.2 e
      exact .inr (.inr ⟨by simp; omega, by simp; omega, by simp [e]⟩)
    · have : cmpL a b ≠ 0 := fun q => e (h2.1 q)
      by_cases l : cmpL a b < 0
      · exact .inl ⟨by simp [l], by simp; omega, by simp [e]⟩
      · exact .inr (.inl ⟨by simp; omega, by simp; omega, by simp [e]⟩)
  · unfold lessL
    intro x y
    exact decide_eq_true (cmpL_trans a b c (of_decide_eq_true x) (of_decide_eq_true y))
theorem tri_big (a b c : Int) : Tri (decide (Bg.cmpZ a b < 0)) (decide (Bg.cmpZ b a < 0)) (decide (Bg.cmpZ b c < 0)) (decide (Bg.cmpZ a c < 0)) (decide (a = b)) := by
  rw [cmpZ_d, cmpZ_d, cmpZ_d, cmpZ_d]
  refine ⟨?_, ?_⟩
  · by_cases h : a < b
    · exact .inl ⟨by simp [h], by simp; omega, by simp; omega⟩
    · by_cases e : a = b
      · exact .inr (.inr ⟨by simp; omega, by simp; omega, by simp [e]⟩)
      · exact .inr (.inl ⟨by simp; omega, by simp; omega, by simp [e]⟩)
  · intro x y
    have := of_decide_eq_true x
    have := of_decide_eq_true y
    exact decide_eq_true (by omega)
theorem tri_num {p q r s u v : Int} (h1 : IsV p q) (h2 : IsV r s) (h3 : IsV u v) (n1 : (p == 2) = false) (n2 : (r == 2) = false) : Tri (lessR p q r s) (lessR r s p q) (lessR r s u v) (lessR p q u v) (equalS p q r s) := by
  unfold lessR
  rw [vk_of h1, vn_of h1, vk_of h2, vn_of h2, vk_of h3, vn_of h3]
  unfold lessS equalS
  rw [n1, n2]
  generalize place p q = a
  generalize place r s = b
  generalize place u v = c
  refine ⟨?_, ?_⟩
  · simp only [Bool.not_false, Bool.true_and]
    by_cases h : a < b
    · exact .inl ⟨by simp [h], by simp; omega, by simp; omega⟩
    · by_cases e : a = b
      · exact .inr (.inr ⟨by simp; omega, by simp; omega, by simp [e]⟩)
      · exact .inr (.inl ⟨by simp; omega, by simp; omega, by simp [e]⟩)
  · simp only [Bool.not_false, Bool.true_and, Bool.and_eq_true, decide_eq_true_eq]
    rintro x ⟨y1, y⟩
    exact ⟨y1, by omega⟩
theorem less_finA {ka pa qa : Int} {ga : Bool} {Aa Ca : Option Addr} {na ca ma da : Nat} {ra : Int} {kb pb qb : Int} {gb : Bool} {Ab Cb : Option Addr} {nb cb mb db : Nat} {rb : Int} {ke pe qe : Int} {ge : Bool} {Ae Ce : Option Addr} {ne ce me de : Nat} {re : Int} {xa xb xe : JV} {lab lba lbc lac eab : Bool} (w : World) (hL : Lai w) (hxa : NV w (Value.agg #[.int .i64 ka, .int .i64 pa, .int .i64 qa, .bool ga, .slice Aa na ca, .slice Ca ma da, .int .i64 ra]) xa) (hxb : NV w (Value.agg #[.int .i64 kb, .int .i64 pb, .int .i64 qb, .bool gb, .slice Ab nb cb, .slice Cb mb db, .int .i64 rb]) xb) (hxe : NV w (Value.agg #[.int .i64 ke, .int .i64 pe, .int .i64 qe, .bool ge, .slice Ae ne ce, .slice Ce me de, .int .i64 re]) xe) (hf : (decide ((⟨#[]⟩ : ByteArray).size ≤ 100) && fewB ma na && fewB mb nb) = true) (hfc : fewB me ne = true) (e1 : (ka != kb) = false) (e2 : (kb != ke) = false) (e3 : ¬ ka < 3) (e4 : ¬ 5 < ka) (f1 : (ka == 3) = false) (ht : Tri lab lba lbc lac eab) (hX : ∀ w1, Plus w w1 → Calls Tryz.prog 18 #[.string ⟨#[60]⟩, Value.agg #[.int .i64 ka, .int .i64 pa, .int .i64 qa, .bool ga, .slice Aa na ca, .slice Ca ma da, .int .i64 ra], Value.agg #[.int .i64 kb, .int .i64 pb, .int .i64 qb, .bool gb, .slice Ab nb cb, .slice Cb mb db, .int .i64 rb]] w1 (RetF (FV (Value.agg #[.int .i64 2, .int .i64 0, .int .i64 0, .bool false, .slice none 0 0, .slice none 0 0, .int .i64 (bit lab)]) 0) w1)) (hY : ∀ w1, Plus w w1 → Calls Tryz.prog 18 #[.string ⟨#[60]⟩, Value.agg #[.int .i64 kb, .int .i64 pb, .int .i64 qb, .bool gb, .slice Ab nb cb, .slice Cb mb db, .int .i64 rb], Value.agg #[.int .i64 ke, .int .i64 pe, .int .i64 qe, .bool ge, .slice Ae ne ce, .slice Ce me de, .int .i64 re]] w1 (RetF (FV (Value.agg #[.int .i64 2, .int .i64 0, .int .i64 0, .bool false, .slice none 0 0, .slice none 0 0, .int .i64 (bit lbc)]) 0) w1)) (hZ : ∀ w1, Plus w w1 → Calls Tryz.prog 18 #[.string ⟨#[60]⟩, Value.agg #[.int .i64 ka, .int .i64 pa, .int .i64 qa, .bool ga, .slice Aa na ca, .slice Ca ma da, .int .i64 ra], Value.agg #[.int .i64 ke, .int .i64 pe, .int .i64 qe, .bool ge, .slice Ae ne ce, .slice Ce me de, .int .i64 re]] w1 (RetF (FV (Value.agg #[.int .i64 2, .int .i64 0, .int .i64 0, .bool false, .slice none 0 0, .slice none 0 0, .int .i64 (bit lac)]) 0) w1)) (hM : ∀ w1, Plus w w1 → Calls Tryz.prog 18 #[.string ⟨#[62]⟩, Value.agg #[.int .i64 ka, .int .i64 pa, .int .i64 qa, .bool ga, .slice Aa na ca, .slice Ca ma da, .int .i64 ra], Value.agg #[.int .i64 kb, .int .i64 pb, .int .i64 qb, .bool gb, .slice Ab nb cb, .slice Cb mb db, .int .i64 rb]] w1 (RetF (FV (Value.agg #[.int .i64 2, .int .i64 0, .int .i64 0, .bool false, .slice none 0 0, .slice none 0 0, .int .i64 (bit lba)]) 0) w1)) (hG : ∀ w1, Plus w w1 → Calls Tryz.prog 18 #[.string ⟨#[60, 61]⟩, Value.agg #[.int .i64 ka, .int .i64 pa, .int .i64 qa, .bool ga, .slice Aa na ca, .slice Ca ma da, .int .i64 ra], Value.agg #[.int .i64 kb, .int .i64 pb, .int .i64 qb, .bool gb, .slice Ab nb cb, .slice Cb mb db, .int .i64 rb]] w1 (RetF (FV (Value.agg #[.int .i64 2, .int .i64 0, .int .i64 0, .bool false, .slice none 0 0, .slice none 0 0, .int .i64 (bit (!lba))]) 0) w1)) (hE : ∀ w1, Plus w w1 → Calls Tryz.prog 18 #[.string ⟨#[61, 61, 61]⟩, Value.agg #[.int .i64 ka, .int .i64 pa, .int .i64 qa, .bool ga, .slice Aa na ca, .slice Ca ma da, .int .i64 ra], Value.agg #[.int .i64 kb, .int .i64 pb, .int .i64 qb, .bool gb, .slice Ab nb cb, .slice Cb mb db, .int .i64 rb]] w1 (RetF (FV (Value.agg #[.int .i64 2, .int .i64 0, .int .i64 0, .bool false, .slice none 0 0, .slice none 0 0, .int .i64 (bit eab)]) 0) w1)) : Calls Tryz.prog 7 #[Value.agg #[.int .i64 ka, .int .i64 pa, .int .i64 qa, .bool ga, .slice Aa na ca, .slice Ca ma da, .int .i64 ra], Value.agg #[.int .i64 kb, .int .i64 pb, .int .i64 qb, .bool gb, .slice Ab nb cb, .slice Cb mb db, .int .i64 rb], Value.agg #[.int .i64 ke, .int .i64 pe, .int .i64 qe, .bool ge, .slice Ae ne ce, .slice Ce me de, .int .i64 re]] w fun e w' => e = .returned (.bool true) ∧ Plus w w' := by
  rcases ht.one with ⟨rfl, rfl, rfl⟩ | ⟨rfl, rfl, rfl⟩ | ⟨rfl, rfl, rfl⟩
  · cases lbc
    · exact sl_Alt2 w (Lib.hid hL) (Lib.hid hf) (Lib.hid hfc) (Lib.hid hxa) (Lib.hid hxb) (Lib.hid hxe) e1 e2 e3 e4 f1 rfl (fun w1 hp => (hX w1 hp).mono fun _ _ h => retF_to h) (fun w1 hp => (hY w1 hp).mono fun _ _ h => retF_to h) (fun w1 hp => (hZ w1 hp).mono fun _ _ h => retF_to h) (fun w1 hp => (hM w1 hp).mono fun _ _ h => retF_to h) (fun w1 hp => (hG w1 hp).mono fun _ _ h => retF_to h) (fun w1 hp => (hE w1 hp).mono fun _ _ h => retF_to h)
    · obtain rfl := ht.tr rfl rfl
      exact sl_Alt3 w (Lib.hid hL) (Lib.hid hf) (Lib.hid hfc) (Lib.hid hxa) (Lib.hid hxb) (Lib.hid hxe) e1 e2 e3 e4 f1 (fun w1 hp => (hX w1 hp).mono fun _ _ h => retF_to h) (fun w1 hp => (hY w1 hp).mono fun _ _ h => retF_to h) (fun w1 hp => (hZ w1 hp).mono fun _ _ h => retF_to h) (fun w1 hp => (hM w1 hp).mono fun _ _ h => retF_to h) (fun w1 hp => (hG w1 hp).mono fun _ _ h => retF_to h) (fun w1 hp => (hE w1 hp).mono fun _ _ h => retF_to h)
  · exact sl_Agt w (Lib.hid hL) (Lib.hid hf) (Lib.hid hfc) (Lib.hid hxa) (Lib.hid hxb) (Lib.hid hxe) e1 e2 e3 e4 f1 (fun w1 hp => (hX w1 hp).mono fun _ _ h => retF_to h) (fun w1 hp => (hY w1 hp).mono fun _ _ h => retF_to h) (fun w1 hp => (hZ w1 hp).mono fun _ _ h => retF_to h) (fun w1 hp => (hM w1 hp).mono fun _ _ h => retF_to h) (fun w1 hp => (hG w1 hp).mono fun _ _ h => retF_to h) (fun w1 hp => (hE w1 hp).mono fun _ _ h => retF_to h)
  · exact sl_Aeq w (Lib.hid hL) (Lib.hid hf) (Lib.hid hfc) (Lib.hid hxa) (Lib.hid hxb) (Lib.hid hxe) e1 e2 e3 e4 f1 (fun w1 hp => (hX w1 hp).mono fun _ _ h => retF_to h) (fun w1 hp => (hY w1 hp).mono fun _ _ h => retF_to h) (fun w1 hp => (hZ w1 hp).mono fun _ _ h => retF_to h) (fun w1 hp => (hM w1 hp).mono fun _ _ h => retF_to h) (fun w1 hp => (hG w1 hp).mono fun _ _ h => retF_to h) (fun w1 hp => (hE w1 hp).mono fun _ _ h => retF_to h)
theorem less_finB {ka pa qa : Int} {ga : Bool} {Aa Ca : Option Addr} {na ca ma da : Nat} {ra : Int} {kb pb qb : Int} {gb : Bool} {Ab Cb : Option Addr} {nb cb mb db : Nat} {rb : Int} {ke pe qe : Int} {ge : Bool} {Ae Ce : Option Addr} {ne ce me de : Nat} {re : Int} {xa xb xe : JV} {lab lba lbc lac eab : Bool} (w : World) (hL : Lai w) (hxa : NV w (Value.agg #[.int .i64 ka, .int .i64 pa, .int .i64 qa, .bool ga, .slice Aa na ca, .slice Ca ma da, .int .i64 ra]) xa) (hxb : NV w (Value.agg #[.int .i64 kb, .int .i64 pb, .int .i64 qb, .bool gb, .slice Ab nb cb, .slice Cb mb db, .int .i64 rb]) xb) (hxe : NV w (Value.agg #[.int .i64 ke, .int .i64 pe, .int .i64 qe, .bool ge, .slice Ae ne ce, .slice Ce me de, .int .i64 re]) xe) (hf : (decide ((⟨#[]⟩ : ByteArray).size ≤ 100) && fewB ma na && fewB mb nb) = true) (hfc : fewB me ne = true) (e1 : (ka != kb) = false) (e2 : (kb != ke) = false) (e3 : ¬ ka < 3) (e4 : ¬ 5 < ka) (f1 : (ka == 3) = true) (f2 : (pa == 2) = false) (f3 : (pb == 2) = false) (ht : Tri lab lba lbc lac eab) (hX : ∀ w1, Plus w w1 → Calls Tryz.prog 18 #[.string ⟨#[60]⟩, Value.agg #[.int .i64 ka, .int .i64 pa, .int .i64 qa, .bool ga, .slice Aa na ca, .slice Ca ma da, .int .i64 ra], Value.agg #[.int .i64 kb, .int .i64 pb, .int .i64 qb, .bool gb, .slice Ab nb cb, .slice Cb mb db, .int .i64 rb]] w1 (RetF (FV (Value.agg #[.int .i64 2, .int .i64 0, .int .i64 0, .bool false, .slice none 0 0, .slice none 0 0, .int .i64 (bit lab)]) 0) w1)) (hY : ∀ w1, Plus w w1 → Calls Tryz.prog 18 #[.string ⟨#[60]⟩, Value.agg #[.int .i64 kb, .int .i64 pb, .int .i64 qb, .bool gb, .slice Ab nb cb, .slice Cb mb db, .int .i64 rb], Value.agg #[.int .i64 ke, .int .i64 pe, .int .i64 qe, .bool ge, .slice Ae ne ce, .slice Ce me de, .int .i64 re]] w1 (RetF (FV (Value.agg #[.int .i64 2, .int .i64 0, .int .i64 0, .bool false, .slice none 0 0, .slice none 0 0, .int .i64 (bit lbc)]) 0) w1)) (hZ : ∀ w1, Plus w w1 → Calls Tryz.prog 18 #[.string ⟨#[60]⟩, Value.agg #[.int .i64 ka, .int .i64 pa, .int .i64 qa, .bool ga, .slice Aa na ca, .slice Ca ma da, .int .i64 ra], Value.agg #[.int .i64 ke, .int .i64 pe, .int .i64 qe, .bool ge, .slice Ae ne ce, .slice Ce me de, .int .i64 re]] w1 (RetF (FV (Value.agg #[.int .i64 2, .int .i64 0, .int .i64 0, .bool false, .slice none 0 0, .slice none 0 0, .int .i64 (bit lac)]) 0) w1)) (hM : ∀ w1, Plus w w1 → Calls Tryz.prog 18 #[.string ⟨#[62]⟩, Value.agg #[.int .i64 ka, .int .i64 pa, .int .i64 qa, .bool ga, .slice Aa na ca, .slice Ca ma da, .int .i64 ra], Value.agg #[.int .i64 kb, .int .i64 pb, .int .i64 qb, .bool gb, .slice Ab nb cb, .slice Cb mb db, .int .i64 rb]] w1 (RetF (FV (Value.agg #[.int .i64 2, .int .i64 0, .int .i64 0, .bool false, .slice none 0 0, .slice none 0 0, .int .i64 (bit lba)]) 0) w1)) (hG : ∀ w1, Plus w w1 → Calls Tryz.prog 18 #[.string ⟨#[60, 61]⟩, Value.agg #[.int .i64 ka, .int .i64 pa, .int .i64 qa, .bool ga, .slice Aa na ca, .slice Ca ma da, .int .i64 ra], Value.agg #[.int .i64 kb, .int .i64 pb, .int .i64 qb, .bool gb, .slice Ab nb cb, .slice Cb mb db, .int .i64 rb]] w1 (RetF (FV (Value.agg #[.int .i64 2, .int .i64 0, .int .i64 0, .bool false, .slice none 0 0, .slice none 0 0, .int .i64 (bit (!lba))]) 0) w1)) (hE : ∀ w1, Plus w w1 → Calls Tryz.prog 18 #[.string ⟨#[61, 61, 61]⟩, Value.agg #[.int .i64 ka, .int .i64 pa, .int .i64 qa, .bool ga, .slice Aa na ca, .slice Ca ma da, .int .i64 ra], Value.agg #[.int .i64 kb, .int .i64 pb, .int .i64 qb, .bool gb, .slice Ab nb cb, .slice Cb mb db, .int .i64 rb]] w1 (RetF (FV (Value.agg #[.int .i64 2, .int .i64 0, .int .i64 0, .bool false, .slice none 0 0, .slice none 0 0, .int .i64 (bit eab)]) 0) w1)) : Calls Tryz.prog 7 #[Value.agg #[.int .i64 ka, .int .i64 pa, .int .i64 qa, .bool ga, .slice Aa na ca, .slice Ca ma da, .int .i64 ra], Value.agg #[.int .i64 kb, .int .i64 pb, .int .i64 qb, .bool gb, .slice Ab nb cb, .slice Cb mb db, .int .i64 rb], Value.agg #[.int .i64 ke, .int .i64 pe, .int .i64 qe, .bool ge, .slice Ae ne ce, .slice Ce me de, .int .i64 re]] w fun e w' => e = .returned (.bool true) ∧ Plus w w' := by
  rcases ht.one with ⟨rfl, rfl, rfl⟩ | ⟨rfl, rfl, rfl⟩ | ⟨rfl, rfl, rfl⟩
  · cases lbc
    · exact sl_Blt2 w (Lib.hid hL) (Lib.hid hf) (Lib.hid hfc) (Lib.hid hxa) (Lib.hid hxb) (Lib.hid hxe) e1 e2 e3 e4 f1 f2 f3 rfl (fun w1 hp => (hX w1 hp).mono fun _ _ h => retF_to h) (fun w1 hp => (hY w1 hp).mono fun _ _ h => retF_to h) (fun w1 hp => (hZ w1 hp).mono fun _ _ h => retF_to h) (fun w1 hp => (hM w1 hp).mono fun _ _ h => retF_to h) (fun w1 hp => (hG w1 hp).mono fun _ _ h => retF_to h) (fun w1 hp => (hE w1 hp).mono fun _ _ h => retF_to h)
    · obtain rfl := ht.tr rfl rfl
      exact sl_Blt3 w (Lib.hid hL) (Lib.hid hf) (Lib.hid hfc) (Lib.hid hxa) (Lib.hid hxb) (Lib.hid hxe) e1 e2 e3 e4 f1 f2 f3 (fun w1 hp => (hX w1 hp).mono fun _ _ h => retF_to h) (fun w1 hp => (hY w1 hp).mono fun _ _ h => retF_to h) (fun w1 hp => (hZ w1 hp).mono fun _ _ h => retF_to h) (fun w1 hp => (hM w1 hp).mono fun _ _ h => retF_to h) (fun w1 hp => (hG w1 hp).mono fun _ _ h => retF_to h) (fun w1 hp => (hE w1 hp).mono fun _ _ h => retF_to h)
  · exact sl_Bgt w (Lib.hid hL) (Lib.hid hf) (Lib.hid hfc) (Lib.hid hxa) (Lib.hid hxb) (Lib.hid hxe) e1 e2 e3 e4 f1 f2 f3 (fun w1 hp => (hX w1 hp).mono fun _ _ h => retF_to h) (fun w1 hp => (hY w1 hp).mono fun _ _ h => retF_to h) (fun w1 hp => (hZ w1 hp).mono fun _ _ h => retF_to h) (fun w1 hp => (hM w1 hp).mono fun _ _ h => retF_to h) (fun w1 hp => (hG w1 hp).mono fun _ _ h => retF_to h) (fun w1 hp => (hE w1 hp).mono fun _ _ h => retF_to h)
  · exact sl_Beq w (Lib.hid hL) (Lib.hid hf) (Lib.hid hfc) (Lib.hid hxa) (Lib.hid hxb) (Lib.hid hxe) e1 e2 e3 e4 f1 f2 f3 (fun w1 hp => (hX w1 hp).mono fun _ _ h => retF_to h) (fun w1 hp => (hY w1 hp).mono fun _ _ h => retF_to h) (fun w1 hp => (hZ w1 hp).mono fun _ _ h => retF_to h) (fun w1 hp => (hM w1 hp).mono fun _ _ h => retF_to h) (fun w1 hp => (hG w1 hp).mono fun _ _ h => retF_to h) (fun w1 hp => (hE w1 hp).mono fun _ _ h => retF_to h)
theorem seq_J {ka pa qa : Int} {ga : Bool} {Aa Ca : Option Addr} {na ca ma da : Nat} {ra : Int} {kb pb qb : Int} {gb : Bool} {Ab Cb : Option Addr} {nb cb mb db : Nat} {rb : Int} {xa xb : JV} (w : World) (hxa : NV w (Value.agg #[.int .i64 ka, .int .i64 pa, .int .i64 qa, .bool ga, .slice Aa na ca, .slice Ca ma da, .int .i64 ra]) xa) (hxb : NV w (Value.agg #[.int .i64 kb, .int .i64 pb, .int .i64 qb, .bool gb, .slice Ab nb cb, .slice Cb mb db, .int .i64 rb]) xb) : Calls Tryz.prog 18 #[.string ⟨#[61, 61, 61]⟩, Value.agg #[.int .i64 ka, .int .i64 pa, .int .i64 qa, .bool ga, .slice Aa na ca, .slice Ca ma da, .int .i64 ra], Value.agg #[.int .i64 kb, .int .i64 pb, .int .i64 qb, .bool gb, .slice Ab nb cb, .slice Cb mb db, .int .i64 rb]] w (RetF (FV (Value.agg #[.int .i64 2, .int .i64 0, .int .i64 0, .bool false, .slice none 0 0, .slice none 0 0, .int .i64 (bit (strictJ xa xb))]) 0) w) := by
  cases hz : strictJ xa xb
  · exact (bin_seq_f w (Lib.hid hxa.vldo) (Lib.hid hxb.vldo) (Lib.hid hxa) (Lib.hid hxb) (Lib.hid hz)).mono fun _ _ h => retF_of h
  · exact (bin_seq_t w (Lib.hid hxa.vldo) (Lib.hid hxb.vldo) (Lib.hid hxa) (Lib.hid hxb) (Lib.hid hz)).mono fun _ _ h => retF_of h
theorem lessR_nan1 {p q r s : Int} (h : (p == 2) = true) (v : IsV p q) : lessR p q r s = false := by
  unfold lessR lessS
  rw [vk_of v, h]
  rfl
theorem lessR_nan2 {p q r s : Int} (h : (r == 2) = true) (v : IsV r s) : lessR p q r s = false := by
  unfold lessR lessS
  rw [vk_of v, h]
  simp
theorem lt_J3 {pa qa : Int} {ga : Bool} {Aa Ca : Option Addr} {na ca ma da : Nat} {ra : Int} {pb qb : Int} {gb : Bool} {Ab Cb : Option Addr} {nb cb mb db : Nat} {rb : Int} (w : World) (hL : Lai w) (hxa : NV w (Value.agg #[.int .i64 3, .int .i64 pa, .int .i64 qa, .bool ga, .slice Aa na ca, .slice Ca ma da, .int .i64 ra]) (.num pa qa)) (hxb : NV w (Value.agg #[.int .i64 3, .int .i64 pb, .int .i64 qb, .bool gb, .slice Ab nb cb, .slice Cb mb db, .int .i64 rb]) (.num pb qb)) : Calls Tryz.prog 18 #[.string ⟨#[60]⟩, Value.agg #[.int .i64 3, .int .i64 pa, .int .i64 qa, .bool ga, .slice Aa na ca, .slice Ca ma da, .int .i64 ra], Value.agg #[.int .i64 3, .int .i64 pb, .int .i64 qb, .bool gb, .slice Ab nb cb, .slice Cb mb db, .int .i64 rb]] w (RetF (FV (Value.agg #[.int .i64 2, .int .i64 0, .int .i64 0, .bool false, .slice none 0 0, .slice none 0 0, .int .i64 (bit (lessR pa qa pb qb))]) 0) w) := by
  have va : IsV pa qa := hxa.ok
  have vb : IsV pb qb := hxb.ok
  cases e2 : (pa == 2)
  · cases e3 : (pb == 2)
    · exact bj_lt w (Lib.hid hxa) (Lib.hid hxb) (by have q := (cmpn_NN w (Lib.hid hL) (Lib.hid hxa) (Lib.hid rfl) (fun _ e => by cases e) (Lib.hid hxb) (Lib.hid rfl) (fun _ e => by cases e) rfl rfl); rw [e2, e3] at q; exact q)
    · rw [lessR_nan2 e3 vb]
      exact bj_lt_nan2 w (Lib.hid hxa) (Lib.hid hxb) (by have q := (cmpn_NN w (Lib.hid hL) (Lib.hid hxa) (Lib.hid rfl) (fun _ e => by cases e) (Lib.hid hxb) (Lib.hid rfl) (fun _ e => by cases e) rfl rfl); rw [e2, e3] at q; exact q)
  · rw [lessR_nan1 e2 va]
    exact bj_lt_nan1 w (Lib.hid hxa) (Lib.hid hxb) (by have q := (cmpn_NN w (Lib.hid hL) (Lib.hid hxa) (Lib.hid rfl) (fun _ e => by cases e) (Lib.hid hxb) (Lib.hid rfl) (fun _ e => by cases e) rfl rfl); rw [e2] at q; exact q)
theorem gt_J3 {pa qa : Int} {ga : Bool} {Aa Ca : Option Addr} {na ca ma da : Nat} {ra : Int} {pb qb : Int} {gb : Bool} {Ab Cb : Option Addr} {nb cb mb db : Nat} {rb : Int} (w : World) (hL : Lai w) (hxa : NV w (Value.agg #[.int .i64 3, .int .i64 pa, .int .i64 qa, .bool ga, .slice Aa na ca, .slice Ca ma da, .int .i64 ra]) (.num pa qa)) (hxb : NV w (Value.agg #[.int .i64 3, .int .i64 pb, .int .i64 qb, .bool gb, .slice Ab nb cb, .slice Cb mb db, .int .i64 rb]) (.num pb qb)) : Calls Tryz.prog 18 #[.string ⟨#[62]⟩, Value.agg #[.int .i64 3, .int .i64 pa, .int .i64 qa, .bool ga, .slice Aa na ca, .slice Ca ma da, .int .i64 ra], Value.agg #[.int .i64 3, .int .i64 pb, .int .i64 qb, .bool gb, .slice Ab nb cb, .slice Cb mb db, .int .i64 rb]] w (RetF (FV (Value.agg #[.int .i64 2, .int .i64 0, .int .i64 0, .bool false, .slice none 0 0, .slice none 0 0, .int .i64 (bit (lessR pb qb pa qa))]) 0) w) := by
  have va : IsV pa qa := hxa.ok
  have vb : IsV pb qb := hxb.ok
  cases e2 : (pa == 2)
  · cases e3 : (pb == 2)
    · exact bj_gt w (Lib.hid hxa) (Lib.hid hxb) (by have q := (cmpn_NN w (Lib.hid hL) (Lib.hid hxa) (Lib.hid rfl) (fun _ e => by cases e) (Lib.hid hxb) (Lib.hid rfl) (fun _ e => by cases e) rfl rfl); rw [e2, e3] at q; exact q)
    · rw [lessR_nan1 e3 vb]
      exact bj_gt_nan2 w (Lib.hid hxa) (Lib.hid hxb) (by have q := (cmpn_NN w (Lib.hid hL) (Lib.hid hxa) (Lib.hid rfl) (fun _ e => by cases e) (Lib.hid hxb) (Lib.hid rfl) (fun _ e => by cases e) rfl rfl); rw [e2, e3] at q; exact q)
  · rw [lessR_nan2 e2 va]
    exact bj_gt_nan1 w (Lib.hid hxa) (Lib.hid hxb) (by have q := (cmpn_NN w (Lib.hid hL) (Lib.hid hxa) (Lib.hid rfl) (fun _ e => by cases e) (Lib.hid hxb) (Lib.hid rfl) (fun _ e => by cases e) rfl rfl); rw [e2] at q; exact q)
theorem le_J3 {pa qa : Int} {ga : Bool} {Aa Ca : Option Addr} {na ca ma da : Nat} {ra : Int} {pb qb : Int} {gb : Bool} {Ab Cb : Option Addr} {nb cb mb db : Nat} {rb : Int} (w : World) (hL : Lai w) (hxa : NV w (Value.agg #[.int .i64 3, .int .i64 pa, .int .i64 qa, .bool ga, .slice Aa na ca, .slice Ca ma da, .int .i64 ra]) (.num pa qa)) (hxb : NV w (Value.agg #[.int .i64 3, .int .i64 pb, .int .i64 qb, .bool gb, .slice Ab nb cb, .slice Cb mb db, .int .i64 rb]) (.num pb qb)) (e2 : (pa == 2) = false) (e3 : (pb == 2) = false) : Calls Tryz.prog 18 #[.string ⟨#[60, 61]⟩, Value.agg #[.int .i64 3, .int .i64 pa, .int .i64 qa, .bool ga, .slice Aa na ca, .slice Ca ma da, .int .i64 ra], Value.agg #[.int .i64 3, .int .i64 pb, .int .i64 qb, .bool gb, .slice Ab nb cb, .slice Cb mb db, .int .i64 rb]] w (RetF (FV (Value.agg #[.int .i64 2, .int .i64 0, .int .i64 0, .bool false, .slice none 0 0, .slice none 0 0, .int .i64 (bit (!(lessR pb qb pa qa)))]) 0) w) :=
  bj_le w (Lib.hid hxa) (Lib.hid hxb) (by have q := (cmpn_NN w (Lib.hid hL) (Lib.hid hxa) (Lib.hid rfl) (fun _ e => by cases e) (Lib.hid hxb) (Lib.hid rfl) (fun _ e => by cases e) rfl rfl); rw [e2, e3] at q; exact q)
theorem le_N1 {pa qa : Int} {ga : Bool} {Aa Ca : Option Addr} {na ca ma da : Nat} {ra : Int} {pb qb : Int} {gb : Bool} {Ab Cb : Option Addr} {nb cb mb db : Nat} {rb : Int} (w : World) (hL : Lai w) (hxa : NV w (Value.agg #[.int .i64 3, .int .i64 pa, .int .i64 qa, .bool ga, .slice Aa na ca, .slice Ca ma da, .int .i64 ra]) (.num pa qa)) (hxb : NV w (Value.agg #[.int .i64 3, .int .i64 pb, .int .i64 qb, .bool gb, .slice Ab nb cb, .slice Cb mb db, .int .i64 rb]) (.num pb qb)) (e2 : (pa == 2) = true) : Calls Tryz.prog 18 #[.string ⟨#[60, 61]⟩, Value.agg #[.int .i64 3, .int .i64 pa, .int .i64 qa, .bool ga, .slice Aa na ca, .slice Ca ma da, .int .i64 ra], Value.agg #[.int .i64 3, .int .i64 pb, .int .i64 qb, .bool gb, .slice Ab nb cb, .slice Cb mb db, .int .i64 rb]] w (RetF (FV (Value.agg #[.int .i64 2, .int .i64 0, .int .i64 0, .bool false, .slice none 0 0, .slice none 0 0, .int .i64 (bit false)]) 0) w) :=
  bj_le_nan1 w (Lib.hid hxa) (Lib.hid hxb) (by have q := (cmpn_NN w (Lib.hid hL) (Lib.hid hxa) (Lib.hid rfl) (fun _ e => by cases e) (Lib.hid hxb) (Lib.hid rfl) (fun _ e => by cases e) rfl rfl); rw [e2] at q; exact q)
theorem le_N2 {pa qa : Int} {ga : Bool} {Aa Ca : Option Addr} {na ca ma da : Nat} {ra : Int} {pb qb : Int} {gb : Bool} {Ab Cb : Option Addr} {nb cb mb db : Nat} {rb : Int} (w : World) (hL : Lai w) (hxa : NV w (Value.agg #[.int .i64 3, .int .i64 pa, .int .i64 qa, .bool ga, .slice Aa na ca, .slice Ca ma da, .int .i64 ra]) (.num pa qa)) (hxb : NV w (Value.agg #[.int .i64 3, .int .i64 pb, .int .i64 qb, .bool gb, .slice Ab nb cb, .slice Cb mb db, .int .i64 rb]) (.num pb qb)) (e2 : (pa == 2) = false) (e3 : (pb == 2) = true) : Calls Tryz.prog 18 #[.string ⟨#[60, 61]⟩, Value.agg #[.int .i64 3, .int .i64 pa, .int .i64 qa, .bool ga, .slice Aa na ca, .slice Ca ma da, .int .i64 ra], Value.agg #[.int .i64 3, .int .i64 pb, .int .i64 qb, .bool gb, .slice Ab nb cb, .slice Cb mb db, .int .i64 rb]] w (RetF (FV (Value.agg #[.int .i64 2, .int .i64 0, .int .i64 0, .bool false, .slice none 0 0, .slice none 0 0, .int .i64 (bit false)]) 0) w) :=
  bj_le_nan2 w (Lib.hid hxa) (Lib.hid hxb) (by have q := (cmpn_NN w (Lib.hid hL) (Lib.hid hxa) (Lib.hid rfl) (fun _ e => by cases e) (Lib.hid hxb) (Lib.hid rfl) (fun _ e => by cases e) rfl rfl); rw [e2, e3] at q; exact q)
theorem lt_J4 {pa qa : Int} {ga : Bool} {Aa Ca : Option Addr} {na ca ma da : Nat} {ra : Int} {pb qb : Int} {gb : Bool} {Ab Cb : Option Addr} {nb cb mb db : Nat} {rb : Int} {za zb : Int} (w : World) (hL : Lai w) (hxa : NV w (Value.agg #[.int .i64 4, .int .i64 pa, .int .i64 qa, .bool ga, .slice Aa na ca, .slice Ca ma da, .int .i64 ra]) (.big za)) (hxb : NV w (Value.agg #[.int .i64 4, .int .i64 pb, .int .i64 qb, .bool gb, .slice Ab nb cb, .slice Cb mb db, .int .i64 rb]) (.big zb)) : Calls Tryz.prog 18 #[.string ⟨#[60]⟩, Value.agg #[.int .i64 4, .int .i64 pa, .int .i64 qa, .bool ga, .slice Aa na ca, .slice Ca ma da, .int .i64 ra], Value.agg #[.int .i64 4, .int .i64 pb, .int .i64 qb, .bool gb, .slice Ab nb cb, .slice Cb mb db, .int .i64 rb]] w (RetF (FV (Value.agg #[.int .i64 2, .int .i64 0, .int .i64 0, .bool false, .slice none 0 0, .slice none 0 0, .int .i64 (bit (decide (Bg.cmpZ za zb < 0)))]) 0) w) :=
  bj_lt w (Lib.hid hxa) (Lib.hid hxb) (cmpn_BB w (Lib.hid hL) (Lib.hid hxa) (Lib.hid hxb) rfl rfl rfl)
theorem gt_J4 {pa qa : Int} {ga : Bool} {Aa Ca : Option Addr} {na ca ma da : Nat} {ra : Int} {pb qb : Int} {gb : Bool} {Ab Cb : Option Addr} {nb cb mb db : Nat} {rb : Int} {za zb : Int} (w : World) (hL : Lai w) (hxa : NV w (Value.agg #[.int .i64 4, .int .i64 pa, .int .i64 qa, .bool ga, .slice Aa na ca, .slice Ca ma da, .int .i64 ra]) (.big za)) (hxb : NV w (Value.agg #[.int .i64 4, .int .i64 pb, .int .i64 qb, .bool gb, .slice Ab nb cb, .slice Cb mb db, .int .i64 rb]) (.big zb)) : Calls Tryz.prog 18 #[.string ⟨#[62]⟩, Value.agg #[.int .i64 4, .int .i64 pa, .int .i64 qa, .bool ga, .slice Aa na ca, .slice Ca ma da, .int .i64 ra], Value.agg #[.int .i64 4, .int .i64 pb, .int .i64 qb, .bool gb, .slice Ab nb cb, .slice Cb mb db, .int .i64 rb]] w (RetF (FV (Value.agg #[.int .i64 2, .int .i64 0, .int .i64 0, .bool false, .slice none 0 0, .slice none 0 0, .int .i64 (bit (decide (Bg.cmpZ zb za < 0)))]) 0) w) :=
  bj_gt w (Lib.hid hxa) (Lib.hid hxb) (cmpn_BB w (Lib.hid hL) (Lib.hid hxa) (Lib.hid hxb) rfl rfl rfl)
theorem le_J4 {pa qa : Int} {ga : Bool} {Aa Ca : Option Addr} {na ca ma da : Nat} {ra : Int} {pb qb : Int} {gb : Bool} {Ab Cb : Option Addr} {nb cb mb db : Nat} {rb : Int} {za zb : Int} (w : World) (hL : Lai w) (hxa : NV w (Value.agg #[.int .i64 4, .int .i64 pa, .int .i64 qa, .bool ga, .slice Aa na ca, .slice Ca ma da, .int .i64 ra]) (.big za)) (hxb : NV w (Value.agg #[.int .i64 4, .int .i64 pb, .int .i64 qb, .bool gb, .slice Ab nb cb, .slice Cb mb db, .int .i64 rb]) (.big zb)) : Calls Tryz.prog 18 #[.string ⟨#[60, 61]⟩, Value.agg #[.int .i64 4, .int .i64 pa, .int .i64 qa, .bool ga, .slice Aa na ca, .slice Ca ma da, .int .i64 ra], Value.agg #[.int .i64 4, .int .i64 pb, .int .i64 qb, .bool gb, .slice Ab nb cb, .slice Cb mb db, .int .i64 rb]] w (RetF (FV (Value.agg #[.int .i64 2, .int .i64 0, .int .i64 0, .bool false, .slice none 0 0, .slice none 0 0, .int .i64 (bit (!(decide (Bg.cmpZ zb za < 0))))]) 0) w) :=
  bj_le w (Lib.hid hxa) (Lib.hid hxb) (cmpn_BB w (Lib.hid hL) (Lib.hid hxa) (Lib.hid hxb) rfl rfl rfl)
theorem lt_J5 {Aa Ca : Option Addr} {usa : List Nat} {ca ma da : Nat} {Ab Cb : Option Addr} {usb : List Nat} {cb mb db : Nat} (w : World) (hxa : NV w (Value.agg #[.int .i64 5, .int .i64 0, .int .i64 0, .bool false, .slice Aa 0 ca, .slice Ca ma da, .int .i64 0]) (.text usa)) (hxb : NV w (Value.agg #[.int .i64 5, .int .i64 0, .int .i64 0, .bool false, .slice Ab 0 cb, .slice Cb mb db, .int .i64 0]) (.text usb)) (ha : Ar .u16 65536 w Ca usa ma da) (hb : Ar .u16 65536 w Cb usb mb db) : Calls Tryz.prog 18 #[.string ⟨#[60]⟩, Value.agg #[.int .i64 5, .int .i64 0, .int .i64 0, .bool false, .slice Aa 0 ca, .slice Ca ma da, .int .i64 0], Value.agg #[.int .i64 5, .int .i64 0, .int .i64 0, .bool false, .slice Ab 0 cb, .slice Cb mb db, .int .i64 0]] w (RetF (FV (Value.agg #[.int .i64 2, .int .i64 0, .int .i64 0, .bool false, .slice none 0 0, .slice none 0 0, .int .i64 (bit (lessL usa usb))]) 0) w) :=
  bj_lt w (Lib.hid hxa) (Lib.hid hxb) (cmpn_TT w ha hb)
theorem gt_J5 {Aa Ca : Option Addr} {usa : List Nat} {ca ma da : Nat} {Ab Cb : Option Addr} {usb : List Nat} {cb mb db : Nat} (w : World) (hxa : NV w (Value.agg #[.int .i64 5, .int .i64 0, .int .i64 0, .bool false, .slice Aa 0 ca, .slice Ca ma da, .int .i64 0]) (.text usa)) (hxb : NV w (Value.agg #[.int .i64 5, .int .i64 0, .int .i64 0, .bool false, .slice Ab 0 cb, .slice Cb mb db, .int .i64 0]) (.text usb)) (ha : Ar .u16 65536 w Ca usa ma da) (hb : Ar .u16 65536 w Cb usb mb db) : Calls Tryz.prog 18 #[.string ⟨#[62]⟩, Value.agg #[.int .i64 5, .int .i64 0, .int .i64 0, .bool false, .slice Aa 0 ca, .slice Ca ma da, .int .i64 0], Value.agg #[.int .i64 5, .int .i64 0, .int .i64 0, .bool false, .slice Ab 0 cb, .slice Cb mb db, .int .i64 0]] w (RetF (FV (Value.agg #[.int .i64 2, .int .i64 0, .int .i64 0, .bool false, .slice none 0 0, .slice none 0 0, .int .i64 (bit (lessL usb usa))]) 0) w) :=
  bj_gt w (Lib.hid hxa) (Lib.hid hxb) (cmpn_TT w ha hb)
theorem le_J5 {Aa Ca : Option Addr} {usa : List Nat} {ca ma da : Nat} {Ab Cb : Option Addr} {usb : List Nat} {cb mb db : Nat} (w : World) (hxa : NV w (Value.agg #[.int .i64 5, .int .i64 0, .int .i64 0, .bool false, .slice Aa 0 ca, .slice Ca ma da, .int .i64 0]) (.text usa)) (hxb : NV w (Value.agg #[.int .i64 5, .int .i64 0, .int .i64 0, .bool false, .slice Ab 0 cb, .slice Cb mb db, .int .i64 0]) (.text usb)) (ha : Ar .u16 65536 w Ca usa ma da) (hb : Ar .u16 65536 w Cb usb mb db) : Calls Tryz.prog 18 #[.string ⟨#[60, 61]⟩, Value.agg #[.int .i64 5, .int .i64 0, .int .i64 0, .bool false, .slice Aa 0 ca, .slice Ca ma da, .int .i64 0], Value.agg #[.int .i64 5, .int .i64 0, .int .i64 0, .bool false, .slice Ab 0 cb, .slice Cb mb db, .int .i64 0]] w (RetF (FV (Value.agg #[.int .i64 2, .int .i64 0, .int .i64 0, .bool false, .slice none 0 0, .slice none 0 0, .int .i64 (bit (!(lessL usb usa)))]) 0) w) :=
  bj_le w (Lib.hid hxa) (Lib.hid hxb) (cmpn_TT w ha hb)
theorem may_5 {p q : Int} {g : Bool} {xs us : List Nat} {r : Int} (h : mayV 5 p q g xs us r = true) : p = 0 ∧ q = 0 ∧ g = false ∧ xs = [] ∧ r = 0 := by
  rcases mayV_cases h with ⟨h, _⟩ | ⟨h, _⟩ | ⟨h, _⟩ | ⟨h, _⟩ | ⟨_, a, b, c, d, _, e⟩ | ⟨h, _⟩ <;> first | exact ⟨a, b, c, d, e⟩ | omega
theorem opless_w {ka pa qa : Int} {ga : Bool} {Aa Ca : Option Addr} {xsa usa : List Nat} {na ca ma da : Nat} {ra : Int} {kb pb qb : Int} {gb : Bool} {Ab Cb : Option Addr} {xsb usb : List Nat} {nb cb mb db : Nat} {rb : Int} {ke pe qe : Int} {ge : Bool} {Ae Ce : Option Addr} {xse use : List Nat} {ne ce me de : Nat} {re : Int} (w : World) (hL : Lai w) (h1 : VM w Aa xsa na ca Ca usa ma da) (h2 : VM w Ab xsb nb cb Cb usb mb db) (h3 : VM w Ae xse ne ce Ce use me de) : Calls Tryz.prog 7 #[Value.agg #[.int .i64 ka, .int .i64 pa, .int .i64 qa, .bool ga, .slice Aa na ca, .slice Ca ma da, .int .i64 ra], Value.agg #[.int .i64 kb, .int .i64 pb, .int .i64 qb, .bool gb, .slice Ab nb cb, .slice Cb mb db, .int .i64 rb], Value.agg #[.int .i64 ke, .int .i64 pe, .int .i64 qe, .bool ge, .slice Ae ne ce, .slice Ce me de, .int .i64 re]] w fun e w' => e = .returned (.bool true) ∧ Plus w w' := by
  cases hf : (decide ((⟨#[]⟩ : ByteArray).size ≤ 100) && fewB ma na && fewB mb nb)
  · exact sl_1 w (Lib.hid hL) (Lib.hid hf)
  cases hfc : fewB me ne
  · exact sl_2 w (Lib.hid hL) (Lib.hid hf) (Lib.hid hfc)
  have hf2 := hf
  simp only [Bool.and_eq_true] at hf2
  have na' : na ≤ 1048576 := by have := few_of hf2.1.2; omega
  have nb' : nb ≤ 1048576 := by have := few_of hf2.2; omega
  have ne' : ne ≤ 1048576 := by have := few_of hfc; omega
  by_cases k1 : ¬ ka = kb
  · exact sl_3 w (Lib.hid hL) (Lib.hid hf) (Lib.hid hfc) (by simp [k1])
  replace k1 : ka = kb := Decidable.not_not.1 k1
  by_cases k2 : ¬ kb = ke
  · exact sl_4 w (Lib.hid hL) (Lib.hid hf) (Lib.hid hfc) (by simp [k1]) (by simp [k2])
  replace k2 : kb = ke := Decidable.not_not.1 k2
  subst k1 k2
  by_cases l3 : ka < 3
  · exact sl_5 w (Lib.hid hL) (Lib.hid hf) (Lib.hid hfc) (by simp) (by simp) l3
  by_cases l5 : 5 < ka
  · exact sl_6 w (Lib.hid hL) (Lib.hid hf) (Lib.hid hfc) (by simp) (by simp) l3 l5
  cases hza : mayV ka pa qa ga xsa usa ra
  · exact sl_7 w (Lib.hid hL) (Lib.hid hf) (Lib.hid hfc) (by simp) (by simp) l3 l5 (Lib.hid h1) na' (Lib.hid hza)
  cases hzb : mayV ka pb qb gb xsb usb rb
  · exact sl_8 w (Lib.hid hL) (Lib.hid hf) (Lib.hid hfc) (by simp) (by simp) l3 l5 (Lib.hid h1) na' (Lib.hid hza) (Lib.hid h2) nb' (Lib.hid hzb)
  cases hze : mayV ka pe qe ge xse use re
  · exact sl_9 w (Lib.hid hL) (Lib.hid hf) (Lib.hid hfc) (by simp) (by simp) l3 l5 (Lib.hid h1) na' (Lib.hid hza) (Lib.hid h2) nb' (Lib.hid hzb) (Lib.hid h3) ne' (Lib.hid hze)
  have xA := nv_of_may ka pa qa ga Aa Ca xsa usa na ca ma da ra w h1 na' hza
  have xB := nv_of_may ka pb qb gb Ab Cb xsb usb nb cb mb db rb w h2 nb' hzb
  have xE := nv_of_may ka pe qe ge Ae Ce xse use ne ce me de re w h3 ne' hze
  unfold jv at xA xB xE
  rw [if_pos hza] at xA
  rw [if_pos hzb] at xB
  rw [if_pos hze] at xE
  have hk : ka = 3 ∨ ka = 4 ∨ ka = 5 := by omega
  rcases hk with rfl | rfl | rfl
  · have va : IsV pa qa := xA.ok
    have vb : IsV pb qb := xB.ok
    have ve : IsV pe qe := xE.ok
    cases e2 : (pa == 2)
    · cases e3 : (pb == 2)
      · exact less_finB w hL xA xB xE hf hfc rfl rfl (by decide) (by decide) rfl e2 e3 (tri_num va vb ve e2 e3)
          (fun w1 hp => lt_J3 w1 (hL.plus hp) (xA.plus hp) (xB.plus hp)) (fun w1 hp => lt_J3 w1 (hL.plus hp) (xB.plus hp) (xE.plus hp)) (fun w1 hp => lt_J3 w1 (hL.plus hp) (xA.plus hp) (xE.plus hp))
          (fun w1 hp => gt_J3 w1 (hL.plus hp) (xA.plus hp) (xB.plus hp)) (fun w1 hp => le_J3 w1 (hL.plus hp) (xA.plus hp) (xB.plus hp) e2 e3) (fun w1 hp => seq_J w1 (xA.plus hp) (xB.plus hp))
      · have r1 : lessR pa qa pb qb = false := lessR_nan2 e3 vb
        have r2 : lessR pb qb pa qa = false := lessR_nan1 e3 vb
        have r3 : strictJ (.num pa qa) (.num pb qb) = false := by show equalS pa qa pb qb = false; unfold equalS; rw [e3]; simp
        have hX := fun w1 (hp : Plus w w1) => lt_J3 w1 (hL.plus hp) (xA.plus hp) (xB.plus hp)
        have hM := fun w1 (hp : Plus w w1) => gt_J3 w1 (hL.plus hp) (xA.plus hp) (xB.plus hp)
        have hE : ∀ w1, Plus w w1 → Calls Tryz.prog 18 #[.string ⟨#[61, 61, 61]⟩, Value.agg #[.int .i64 3, .int .i64 pa, .int .i64 qa, .bool ga, .slice Aa na ca, .slice Ca ma da, .int .i64 ra], Value.agg #[.int .i64 3, .int .i64 pb, .int .i64 qb, .bool gb, .slice Ab nb cb, .slice Cb mb db, .int .i64 rb]] w1 (RetF (FV (Value.agg #[.int .i64 2, .int .i64 0, .int .i64 0, .bool false, .slice none 0 0, .slice none 0 0, .int .i64 (bit (strictJ (.num pa qa) (.num pb qb)))]) 0) w1) := fun w1 (hp : Plus w w1) => seq_J w1 (xA.plus hp) (xB.plus hp)
        rw [r1] at hX
        rw [r2] at hM
        rw [r3] at hE
        exact sl_D w (Lib.hid hL) (Lib.hid hf) (Lib.hid hfc) (Lib.hid xA) (Lib.hid xB) (Lib.hid xE) rfl rfl (by decide) (by decide) rfl e2 e3 (fun w1 hp => (hX w1 hp).mono fun _ _ h => retF_to h) (fun w1 hp => (lt_J3 w1 (hL.plus hp) (xB.plus hp) (xE.plus hp)).mono fun _ _ h => retF_to h) (fun w1 hp => (lt_J3 w1 (hL.plus hp) (xA.plus hp) (xE.plus hp)).mono fun _ _ h => retF_to h) (fun w1 hp => (hM w1 hp).mono fun _ _ h => retF_to h) (fun w1 hp => (le_N2 w1 (hL.plus hp) (xA.plus hp) (xB.plus hp) e2 e3).mono fun _ _ h => retF_to h) (fun w1 hp => (hE w1 hp).mono fun _ _ h => retF_to h)
    · have r1 : lessR pa qa pb qb = false := lessR_nan1 e2 va
      have r2 : lessR pb qb pa qa = false := lessR_nan2 e2 va
      have r3 : strictJ (.num pa qa) (.num pb qb) = false := by show equalS pa qa pb qb = false; unfold equalS; rw [e2]; rfl
      have hX := fun w1 (hp : Plus w w1) => lt_J3 w1 (hL.plus hp) (xA.plus hp) (xB.plus hp)
      have hM := fun w1 (hp : Plus w w1) => gt_J3 w1 (hL.plus hp) (xA.plus hp) (xB.plus hp)
      have hE : ∀ w1, Plus w w1 → Calls Tryz.prog 18 #[.string ⟨#[61, 61, 61]⟩, Value.agg #[.int .i64 3, .int .i64 pa, .int .i64 qa, .bool ga, .slice Aa na ca, .slice Ca ma da, .int .i64 ra], Value.agg #[.int .i64 3, .int .i64 pb, .int .i64 qb, .bool gb, .slice Ab nb cb, .slice Cb mb db, .int .i64 rb]] w1 (RetF (FV (Value.agg #[.int .i64 2, .int .i64 0, .int .i64 0, .bool false, .slice none 0 0, .slice none 0 0, .int .i64 (bit (strictJ (.num pa qa) (.num pb qb)))]) 0) w1) := fun w1 (hp : Plus w w1) => seq_J w1 (xA.plus hp) (xB.plus hp)
      rw [r1] at hX
      rw [r2] at hM
      rw [r3] at hE
      exact sl_C w (Lib.hid hL) (Lib.hid hf) (Lib.hid hfc) (Lib.hid xA) (Lib.hid xB) (Lib.hid xE) rfl rfl (by decide) (by decide) rfl e2 (fun w1 hp => (hX w1 hp).mono fun _ _ h => retF_to h) (fun w1 hp => (lt_J3 w1 (hL.plus hp) (xB.plus hp) (xE.plus hp)).mono fun _ _ h => retF_to h) (fun w1 hp => (lt_J3 w1 (hL.plus hp) (xA.plus hp) (xE.plus hp)).mono fun _ _ h => retF_to h) (fun w1 hp => (hM w1 hp).mono fun _ _ h => retF_to h) (fun w1 hp => (le_N1 w1 (hL.plus hp) (xA.plus hp) (xB.plus hp) e2).mono fun _ _ h => retF_to h) (fun w1 hp => (hE w1 hp).mono fun _ _ h => retF_to h)
  · exact less_finA w hL xA xB xE hf hfc rfl rfl (by decide) (by decide) rfl (tri_big _ _ (Bg.bigI ge xse))
      (fun w1 hp => lt_J4 w1 (hL.plus hp) (xA.plus hp) (xB.plus hp)) (fun w1 hp => lt_J4 w1 (hL.plus hp) (xB.plus hp) (xE.plus hp)) (fun w1 hp => lt_J4 w1 (hL.plus hp) (xA.plus hp) (xE.plus hp))
      (fun w1 hp => gt_J4 w1 (hL.plus hp) (xA.plus hp) (xB.plus hp)) (fun w1 hp => le_J4 w1 (hL.plus hp) (xA.plus hp) (xB.plus hp)) (fun w1 hp => seq_J w1 (xA.plus hp) (xB.plus hp))
  · obtain ⟨rfl, rfl, rfl, rfl, rfl⟩ := may_5 hza
    obtain ⟨rfl, rfl, rfl, rfl, rfl⟩ := may_5 hzb
    obtain ⟨rfl, rfl, rfl, rfl, rfl⟩ := may_5 hze
    obtain rfl : na = 0 := h1.b.len
    obtain rfl : nb = 0 := h2.b.len
    obtain rfl : ne = 0 := h3.b.len
    exact less_finA w hL xA xB xE hf hfc rfl rfl (by decide) (by decide) rfl (tri_txt usa usb use)
      (fun w1 hp => lt_J5 w1 (xA.plus hp) (xB.plus hp) (h1.s.plus hp) (h2.s.plus hp)) (fun w1 hp => lt_J5 w1 (xB.plus hp) (xE.plus hp) (h2.s.plus hp) (h3.s.plus hp)) (fun w1 hp => lt_J5 w1 (xA.plus hp) (xE.plus hp) (h1.s.plus hp) (h3.s.plus hp))
      (fun w1 hp => gt_J5 w1 (xA.plus hp) (xB.plus hp) (h1.s.plus hp) (h2.s.plus hp)) (fun w1 hp => le_J5 w1 (xA.plus hp) (xB.plus hp) (h1.s.plus hp) (h2.s.plus hp)) (fun w1 hp => seq_J w1 (xA.plus hp) (xB.plus hp))
end Go.Proofs.YtgljfgkkolfnbaaGreatDoor
