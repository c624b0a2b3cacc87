/- Contracts: numberOf, Number; copies of units; a value's valid form at a call. Contract: conv.Number. -/
import Derived.WalkSpells
import Derived.Test.YtakahpbondaidaaGreatDoorPZI
namespace Go.Proofs.YtakahpbondaidaaGreatDoor
open Go.RowKit

theorem Vld.call {w w1 : World} {v v' : Value} (h : Vld w v v') (hp : Plus w w1) : Calls Tryz.prog 43 #[v] w1 fun e w2 => e = .returned v' ∧ Plus w1 w2 := h w1 hp
theorem Rd.news {k : IntKind} {w : World} {ad : Addr} {xs : List Nat} (h : Rd k w (some ad) xs) : ∀ j u, (vals k xs)[j]? = some u → w.cell? (ad.add j) = some u := fun j u hj => by
  unfold vals at hj
  rw [List.getElem?_map] at hj
  by_cases hlt : j < xs.length
  · rw [List.getElem?_eq_getElem hlt] at hj
    obtain ⟨g, o, e, _, hc⟩ := h (by omega)
    injection e with e
    subst e
    rw [add_addr, hc j hlt, List.getD_eq_getElem?_getD, List.getElem?_eq_getElem hlt]
    simpa using hj
  · rw [List.getElem?_eq_none (by omega)] at hj
    cases hj
theorem one_vals (k : IntKind) (xs : List Nat) : ∀ u ∈ vals k xs, u.oneCell' = true := fun u hu => by
  obtain ⟨x, _, rfl⟩ := List.mem_map.1 hu
  rfl
set_option maxRecDepth 100000 in
set_option maxHeartbeats 4000000 in
theorem clone16_h (A : Option Addr) (xs : List Nat) (n c : Nat) (w : World) (h : Rd .u16 w A xs) (hn : n = xs.length) (hl : xs.length ≤ 1048576) :
    Calls Tryz.prog 60 #[.slice A n c] w fun e w' => ∃ v, e = .returned v ∧ w'.ownsRow w.heap.size 87 1 v xs.length (vals .u16 xs) ∧ Plus w w' := by
  subst hn
  obtain ⟨i0, hi, hz0, hz1, hz2⟩ := info_parts infoU16
  have q22 : ∀ (w : World) (a : Option Addr) (n c n' c' : Nat), (binOp .eql 27 (.slice a n c) (.slice none n' c')).run Tryz.prog w = .ok (.bool a.isNone) w := fun w a n c n' c' => Lib.run_eql_slice_nil w _ _ a n c n' c' Tryz.underlying27
  have H := Lib.hid h
  rcases A with _ | ad
  · have h0 : xs = [] := by
      rcases xs with _ | ⟨x, xs⟩
      · rfl
      · obtain ⟨g, o, e, _⟩ := h (by simp)
        cases e
    subst h0
    clear h
    go_enter Tryz.func60, Tryz.ntmps60
    go_wp2
    go_ret
    exact ⟨_, rfl, World.ownsRow_nil _ _ _ _, Plus.refl _⟩
  · clear h
    go_enter Tryz.func60, Tryz.ntmps60
    go_wp2_with (at_builtin; refine wpList_append_own _ rfl _ _ 27 rfl w.heap.size 87 i0 (.int .u16 0) 1 2 Tryz.underlying27 hi hz0 hz1 hz2 rfl (by decide) _ _ _ rfl (World.ownsRow_made w #[] 0 (Nat.le_refl _) (Nat.zero_le _) rfl) ad xs.length c (vals .u16 xs) rfl (by rw [vals_len, Nat.mul_one]) (H.out.alloc _).news (one_vals .u16 xs) (by unfold maxLen; omega) (by omega) (by simp) ?_; intro v1 w1 hown1 hgr1 _; have HW1 := Lib.hid hown1; have HG1 := Lib.hid hgr1; clear hown1 hgr1)
    go_ret
    refine ⟨v1, rfl, by simpa using HW1.out, Plus.of_below (((Below.refl _ w).alloc (Nat.le_refl _) _).grown HG1.out (by simp) (fun k hk => by have hk' : some w.heap.size = some k := hk; injection hk' with hk'; omega))⟩
/-- A copy, as a slice. -/
theorem clone16_n {A : Option Addr} {xs : List Nat} {n c : Nat} (w : World) (h : Ar .u16 65536 w A xs n c) (hl : n ≤ 1048576) :
    Calls Tryz.prog 60 #[.slice A n c] w fun e w' => ∃ (D : Option Addr) (k : Nat), e = .returned (.slice D n k) ∧ Ar .u16 65536 w' D xs n k ∧ Plus w w' := by
  refine (clone16_h A xs n c w h.rd h.len (by rw [← h.len]; exact hl)).mono ?_
  rintro e w' ⟨v, rfl, ho, hp⟩
  obtain ⟨D, k, rfl, h1, h2, h3⟩ := rd_of_own ho
  have hn := h.len
  subst hn
  exact ⟨D, k, rfl, ⟨h3, rfl, h1, h2, h.bd⟩, hp⟩
/-- A number and a signal. -/
structure N3 where
  k : Int
  n : Int
  s : Int
def nofU (us : List Nat) : N3 := if (numU us).ok then ⟨(numU us).k, (numU us).n, 0⟩ else ⟨0, 0, 3⟩
theorem number_v {A : Option Addr} {us : List Nat} {n c : Nat} {k m : Int} {ok : Bool} (hu : Hid (numU us = ⟨k, m, ok⟩)) (w : World) (hL : Lai w) (h : Ar .u16 65536 w A us n c) (hs : n ≤ 1000000) :
    Calls Tryz.prog 96 #[.slice A n c] w fun e w' => e = .returned (.tuple #[.agg #[.int .i64 k, .int .i64 m], .bool ok]) ∧ Plus w w' := by
  have := number_c A us n c w hL h hs
  rw [hu.out] at this
  exact this
set_option maxRecDepth 100000 in
set_option maxHeartbeats 4000000 in
theorem numberOf_y {A : Option Addr} {us : List Nat} {n c : Nat} {k m : Int} (hu : Hid (numU us = ⟨k, m, true⟩)) (w : World) (hL : Hid (Lai w)) (h : Hid (Ar .u16 65536 w A us n c)) (hs : n ≤ 1000000) :
    Calls Tryz.prog 44 #[.slice A n c] w fun e w' => e = .returned (.tuple #[.agg #[.int .i64 k, .int .i64 m], .int .i64 0]) ∧ Plus w w' := by
  go_enter Tryz.func44, Tryz.ntmps44
  go_wp2_with (go_at_call 96; (with_reducible refine (number_v hu _ (hL.out.plus (by repeat' (first | exact Plus.refl _ | refine Plus.alloc ?_ _ | refine Plus.plus ?_ _ | refine Plus.drew ?_ | refine Plus.drewN ?_ _))) (h.out.plus (by repeat' (first | exact Plus.refl _ | refine Plus.alloc ?_ _ | refine Plus.plus ?_ _ | refine Plus.drew ?_ | refine Plus.drewN ?_ _))) hs).mono ?_); rintro e w1 ⟨rfl, ⟨x1, rfl⟩⟩)
  go_returns
  exact ⟨rfl, (by repeat' (first | exact Plus.refl _ | refine Plus.alloc ?_ _ | refine Plus.plus ?_ _ | refine Plus.drew ?_ | refine Plus.drewN ?_ _))⟩
set_option maxRecDepth 100000 in
set_option maxHeartbeats 4000000 in
theorem numberOf_n {A : Option Addr} {us : List Nat} {n c : Nat} {k m : Int} (hu : Hid (numU us = ⟨k, m, false⟩)) (w : World) (hL : Hid (Lai w)) (h : Hid (Ar .u16 65536 w A us n c)) (hs : n ≤ 1000000) :
    Calls Tryz.prog 44 #[.slice A n c] w fun e w' => e = .returned (.tuple #[.agg #[.int .i64 0, .int .i64 0], .int .i64 3]) ∧ Plus w w' := by
  go_enter Tryz.func44, Tryz.ntmps44
  go_wp2_with (go_at_call 96; (with_reducible refine (number_v hu _ (hL.out.plus (by repeat' (first | exact Plus.refl _ | refine Plus.alloc ?_ _ | refine Plus.plus ?_ _ | refine Plus.drew ?_ | refine Plus.drewN ?_ _))) (h.out.plus (by repeat' (first | exact Plus.refl _ | refine Plus.alloc ?_ _ | refine Plus.plus ?_ _ | refine Plus.drew ?_ | refine Plus.drewN ?_ _))) hs).mono ?_); rintro e w1 ⟨rfl, ⟨x1, rfl⟩⟩)
  go_returns
  exact ⟨rfl, (by repeat' (first | exact Plus.refl _ | refine Plus.alloc ?_ _ | refine Plus.plus ?_ _ | refine Plus.drew ?_ | refine Plus.drewN ?_ _))⟩
theorem numberOf_v {A : Option Addr} {us : List Nat} {n c : Nat} {k m s : Int} (hu : Hid (nofU us = ⟨k, m, s⟩)) (w : World) (hL : Lai w) (h : Ar .u16 65536 w A us n c) (hs : n ≤ 1000000) :
    Calls Tryz.prog 44 #[.slice A n c] w fun e w' => e = .returned (.tuple #[.agg #[.int .i64 k, .int .i64 m], .int .i64 s]) ∧ Plus w w' := by
  obtain ⟨a, b, ok, hN⟩ : ∃ a b ok, numU us = ⟨a, b, ok⟩ := ⟨_, _, _, rfl⟩
  have q := hu.out
  unfold nofU at q
  rw [hN] at q
  cases ok
  · simp at q
    obtain ⟨rfl, rfl, rfl⟩ := q
    exact numberOf_n (Lib.hid hN) w (Lib.hid hL) (Lib.hid h) hs
  · simp at q
    obtain ⟨rfl, rfl, rfl⟩ := q
    exact numberOf_y (Lib.hid hN) w (Lib.hid hL) (Lib.hid h) hs
end Go.Proofs.YtakahpbondaidaaGreatDoor

namespace Go.Proofs.YtakahpbondaidaaGreatDoor
open Go.RowKit

set_option maxRecDepth 100000 in
set_option maxHeartbeats 4000000 in
theorem number_undef {k p q : Int} {g : Bool} {A C : Option Addr} {n c m d : Nat} {r : Int} {A2 C2 : Option Addr} {c2 d2 : Nat} (w : World) (hv : Hid (Vld w (Value.agg #[.int .i64 k, .int .i64 p, .int .i64 q, .bool g, .slice A n c, .slice C m d, .int .i64 r]) (Value.agg #[.int .i64 0, .int .i64 0, .int .i64 0, .bool false, .slice A2 0 c2, .slice C2 0 d2, .int .i64 0]))) : Calls Tryz.prog 10 #[Value.agg #[.int .i64 k, .int .i64 p, .int .i64 q, .bool g, .slice A n c, .slice C m d, .int .i64 r]] w fun e w' => e = .returned (.tuple #[.agg #[.int .i64 2, .int .i64 0], .int .i64 0]) ∧ Plus w w' := by
  go_enter Tryz.func10, Tryz.ntmps10
  go_wp2_with (go_at_call 43; (with_reducible refine (Vld.call hv.out (by repeat' (first | exact Plus.refl _ | refine Plus.alloc ?_ _ | refine Plus.plus ?_ _ | refine Plus.drew ?_ | refine Plus.drewN ?_ _))).mono ?_); rintro e w1 ⟨rfl, ⟨x1, rfl⟩⟩)
  go_returns
  exact ⟨rfl, (by repeat' (first | exact Plus.refl _ | refine Plus.alloc ?_ _ | refine Plus.plus ?_ _ | refine Plus.drew ?_ | refine Plus.drewN ?_ _))⟩
set_option maxRecDepth 100000 in
set_option maxHeartbeats 4000000 in
theorem number_null {k p q : Int} {g : Bool} {A C : Option Addr} {n c m d : Nat} {r : Int} {A2 C2 : Option Addr} {c2 d2 : Nat} (w : World) (hv : Hid (Vld w (Value.agg #[.int .i64 k, .int .i64 p, .int .i64 q, .bool g, .slice A n c, .slice C m d, .int .i64 r]) (Value.agg #[.int .i64 1, .int .i64 0, .int .i64 0, .bool false, .slice A2 0 c2, .slice C2 0 d2, .int .i64 0]))) : Calls Tryz.prog 10 #[Value.agg #[.int .i64 k, .int .i64 p, .int .i64 q, .bool g, .slice A n c, .slice C m d, .int .i64 r]] w fun e w' => e = .returned (.tuple #[.agg #[.int .i64 0, .int .i64 0], .int .i64 0]) ∧ Plus w w' := by
  go_enter Tryz.func10, Tryz.ntmps10
  go_wp2_with (go_at_call 43; (with_reducible refine (Vld.call hv.out (by repeat' (first | exact Plus.refl _ | refine Plus.alloc ?_ _ | refine Plus.plus ?_ _ | refine Plus.drew ?_ | refine Plus.drewN ?_ _))).mono ?_); rintro e w1 ⟨rfl, ⟨x1, rfl⟩⟩)
  go_returns
  exact ⟨rfl, (by repeat' (first | exact Plus.refl _ | refine Plus.alloc ?_ _ | refine Plus.plus ?_ _ | refine Plus.drew ?_ | refine Plus.drewN ?_ _))⟩
set_option maxRecDepth 100000 in
set_option maxHeartbeats 4000000 in
theorem number_tru {k p q : Int} {g : Bool} {A C : Option Addr} {n c m d : Nat} {r : Int} {A2 C2 : Option Addr} {c2 d2 : Nat} (w : World) (hv : Hid (Vld w (Value.agg #[.int .i64 k, .int .i64 p, .int .i64 q, .bool g, .slice A n c, .slice C m d, .int .i64 r]) (Value.agg #[.int .i64 2, .int .i64 0, .int .i64 0, .bool false, .slice A2 0 c2, .slice C2 0 d2, .int .i64 1]))) : Calls Tryz.prog 10 #[Value.agg #[.int .i64 k, .int .i64 p, .int .i64 q, .bool g, .slice A n c, .slice C m d, .int .i64 r]] w fun e w' => e = .returned (.tuple #[.agg #[.int .i64 0, .int .i64 1], .int .i64 0]) ∧ Plus w w' := by
  go_enter Tryz.func10, Tryz.ntmps10
  go_wp2_with (go_at_call 43; (with_reducible refine (Vld.call hv.out (by repeat' (first | exact Plus.refl _ | refine Plus.alloc ?_ _ | refine Plus.plus ?_ _ | refine Plus.drew ?_ | refine Plus.drewN ?_ _))).mono ?_); rintro e w1 ⟨rfl, ⟨x1, rfl⟩⟩)
  go_returns
  exact ⟨rfl, (by repeat' (first | exact Plus.refl _ | refine Plus.alloc ?_ _ | refine Plus.plus ?_ _ | refine Plus.drew ?_ | refine Plus.drewN ?_ _))⟩
set_option maxRecDepth 100000 in
set_option maxHeartbeats 4000000 in
theorem number_fal {k p q : Int} {g : Bool} {A C : Option Addr} {n c m d : Nat} {r : Int} {A2 C2 : Option Addr} {c2 d2 : Nat} (w : World) (hv : Hid (Vld w (Value.agg #[.int .i64 k, .int .i64 p, .int .i64 q, .bool g, .slice A n c, .slice C m d, .int .i64 r]) (Value.agg #[.int .i64 2, .int .i64 0, .int .i64 0, .bool false, .slice A2 0 c2, .slice C2 0 d2, .int .i64 0]))) : Calls Tryz.prog 10 #[Value.agg #[.int .i64 k, .int .i64 p, .int .i64 q, .bool g, .slice A n c, .slice C m d, .int .i64 r]] w fun e w' => e = .returned (.tuple #[.agg #[.int .i64 0, .int .i64 0], .int .i64 0]) ∧ Plus w w' := by
  go_enter Tryz.func10, Tryz.ntmps10
  go_wp2_with (go_at_call 43; (with_reducible refine (Vld.call hv.out (by repeat' (first | exact Plus.refl _ | refine Plus.alloc ?_ _ | refine Plus.plus ?_ _ | refine Plus.drew ?_ | refine Plus.drewN ?_ _))).mono ?_); rintro e w1 ⟨rfl, ⟨x1, rfl⟩⟩)
  go_returns
  exact ⟨rfl, (by repeat' (first | exact Plus.refl _ | refine Plus.alloc ?_ _ | refine Plus.plus ?_ _ | refine Plus.drew ?_ | refine Plus.drewN ?_ _))⟩
set_option maxRecDepth 100000 in
set_option maxHeartbeats 4000000 in
theorem number_num {k p q : Int} {g : Bool} {A C : Option Addr} {n c m d : Nat} {r : Int} {p2 q2 : Int} {A2 C2 : Option Addr} {c2 d2 : Nat} (w : World) (hv : Hid (Vld w (Value.agg #[.int .i64 k, .int .i64 p, .int .i64 q, .bool g, .slice A n c, .slice C m d, .int .i64 r]) (Value.agg #[.int .i64 3, .int .i64 p2, .int .i64 q2, .bool false, .slice A2 0 c2, .slice C2 0 d2, .int .i64 0]))) : Calls Tryz.prog 10 #[Value.agg #[.int .i64 k, .int .i64 p, .int .i64 q, .bool g, .slice A n c, .slice C m d, .int .i64 r]] w fun e w' => e = .returned (.tuple #[.agg #[.int .i64 p2, .int .i64 q2], .int .i64 0]) ∧ Plus w w' := by
  go_enter Tryz.func10, Tryz.ntmps10
  go_wp2_with (go_at_call 43; (with_reducible refine (Vld.call hv.out (by repeat' (first | exact Plus.refl _ | refine Plus.alloc ?_ _ | refine Plus.plus ?_ _ | refine Plus.drew ?_ | refine Plus.drewN ?_ _))).mono ?_); rintro e w1 ⟨rfl, ⟨x1, rfl⟩⟩)
  go_returns
  exact ⟨rfl, (by repeat' (first | exact Plus.refl _ | refine Plus.alloc ?_ _ | refine Plus.plus ?_ _ | refine Plus.drew ?_ | refine Plus.drewN ?_ _))⟩
set_option maxRecDepth 100000 in
set_option maxHeartbeats 4000000 in
theorem number_big {k p q : Int} {g : Bool} {A C : Option Addr} {n c m d : Nat} {r : Int} {g2 : Bool} {A2 C2 : Option Addr} {n2 c2 d2 : Nat} (w : World) (hv : Hid (Vld w (Value.agg #[.int .i64 k, .int .i64 p, .int .i64 q, .bool g, .slice A n c, .slice C m d, .int .i64 r]) (Value.agg #[.int .i64 4, .int .i64 0, .int .i64 0, .bool g2, .slice A2 n2 c2, .slice C2 0 d2, .int .i64 0]))) : Calls Tryz.prog 10 #[Value.agg #[.int .i64 k, .int .i64 p, .int .i64 q, .bool g, .slice A n c, .slice C m d, .int .i64 r]] w fun e w' => e = .returned (.tuple #[.agg #[.int .i64 0, .int .i64 0], .int .i64 1]) ∧ Plus w w' := by
  go_enter Tryz.func10, Tryz.ntmps10
  go_wp2_with (go_at_call 43; (with_reducible refine (Vld.call hv.out (by repeat' (first | exact Plus.refl _ | refine Plus.alloc ?_ _ | refine Plus.plus ?_ _ | refine Plus.drew ?_ | refine Plus.drewN ?_ _))).mono ?_); rintro e w1 ⟨rfl, ⟨x1, rfl⟩⟩)
  go_returns
  exact ⟨rfl, (by repeat' (first | exact Plus.refl _ | refine Plus.alloc ?_ _ | refine Plus.plus ?_ _ | refine Plus.drew ?_ | refine Plus.drewN ?_ _))⟩
set_option maxRecDepth 100000 in
set_option maxHeartbeats 4000000 in
theorem number_text {k p q : Int} {g : Bool} {A C : Option Addr} {n c m d : Nat} {r : Int} {A2 C2 : Option Addr} {us2 : List Nat} {c2 m2 d2 : Nat} (w : World) (hv : Hid (Vld w (Value.agg #[.int .i64 k, .int .i64 p, .int .i64 q, .bool g, .slice A n c, .slice C m d, .int .i64 r]) (Value.agg #[.int .i64 5, .int .i64 0, .int .i64 0, .bool false, .slice A2 0 c2, .slice C2 m2 d2, .int .i64 0]))) (hs : Hid (Ar .u16 65536 w C2 us2 m2 d2)) {a b s : Int} (hu : Hid (nofU us2 = ⟨a, b, s⟩)) (hm : m2 ≤ 4096) (hL : Hid (Lai w)) : Calls Tryz.prog 10 #[Value.agg #[.int .i64 k, .int .i64 p, .int .i64 q, .bool g, .slice A n c, .slice C m d, .int .i64 r]] w fun e w' => e = .returned (.tuple #[.agg #[.int .i64 a, .int .i64 b], .int .i64 s]) ∧ Plus w w' := by
  go_enter Tryz.func10, Tryz.ntmps10
  go_wp2_with (first | (go_at_call 43; (with_reducible refine (Vld.call hv.out (by repeat' (first | exact Plus.refl _ | refine Plus.alloc ?_ _ | refine Plus.plus ?_ _ | refine Plus.drew ?_ | refine Plus.drewN ?_ _))).mono ?_); rintro e w1 ⟨rfl, ⟨x1, rfl⟩⟩) | (go_at_call 44; (with_reducible refine (numberOf_v hu _ (hL.out.plus (by repeat' (first | exact Plus.refl _ | refine Plus.alloc ?_ _ | refine Plus.plus ?_ _ | refine Plus.drew ?_ | refine Plus.drewN ?_ _))) (hs.out.plus (by repeat' (first | exact Plus.refl _ | refine Plus.alloc ?_ _ | refine Plus.plus ?_ _ | refine Plus.drew ?_ | refine Plus.drewN ?_ _))) (by omega)).mono ?_); rintro e w2 ⟨rfl, ⟨x2, rfl⟩⟩))
  go_returns
  exact ⟨rfl, (by repeat' (first | exact Plus.refl _ | refine Plus.alloc ?_ _ | refine Plus.plus ?_ _ | refine Plus.drew ?_ | refine Plus.drewN ?_ _))⟩
set_option maxRecDepth 100000 in
set_option maxHeartbeats 4000000 in
theorem number_obj {k p q : Int} {g : Bool} {A C : Option Addr} {n c m d : Nat} {r : Int} {A2 C2 : Option Addr} {c2 d2 : Nat} {r2 : Int} (w : World) (hv : Hid (Vld w (Value.agg #[.int .i64 k, .int .i64 p, .int .i64 q, .bool g, .slice A n c, .slice C m d, .int .i64 r]) (Value.agg #[.int .i64 6, .int .i64 0, .int .i64 0, .bool false, .slice A2 0 c2, .slice C2 0 d2, .int .i64 r2]))) : Calls Tryz.prog 10 #[Value.agg #[.int .i64 k, .int .i64 p, .int .i64 q, .bool g, .slice A n c, .slice C m d, .int .i64 r]] w fun e w' => e = .returned (.tuple #[.agg #[.int .i64 0, .int .i64 0], .int .i64 3]) ∧ Plus w w' := by
  go_enter Tryz.func10, Tryz.ntmps10
  go_wp2_with (go_at_call 43; (with_reducible refine (Vld.call hv.out (by repeat' (first | exact Plus.refl _ | refine Plus.alloc ?_ _ | refine Plus.plus ?_ _ | refine Plus.drew ?_ | refine Plus.drewN ?_ _))).mono ?_); rintro e w1 ⟨rfl, ⟨x1, rfl⟩⟩)
  go_returns
  exact ⟨rfl, (by repeat' (first | exact Plus.refl _ | refine Plus.alloc ?_ _ | refine Plus.plus ?_ _ | refine Plus.drew ?_ | refine Plus.drewN ?_ _))⟩
def numJ : JV → N3
  | .undef => ⟨2, 0, 0⟩
  | .null => ⟨0, 0, 0⟩
  | .bool b => ⟨0, bit b, 0⟩
  | .num p q => ⟨p, q, 0⟩
  | .big _ => ⟨0, 0, 1⟩
  | .text us => nofU us
  | .obj _ => ⟨0, 0, 3⟩
theorem cnumber_v {k p q : Int} {g : Bool} {A C : Option Addr} {n c m d : Nat} {r : Int} {v' : Value} {x : JV} {a b s : Int} (hJ : Hid (numJ x = ⟨a, b, s⟩)) (w : World) (hL : Lai w) (hn : NV w v' x) (hv : Vld w (Value.agg #[.int .i64 k, .int .i64 p, .int .i64 q, .bool g, .slice A n c, .slice C m d, .int .i64 r]) v') :
    Calls Tryz.prog 10 #[Value.agg #[.int .i64 k, .int .i64 p, .int .i64 q, .bool g, .slice A n c, .slice C m d, .int .i64 r]] w fun e w' => e = .returned (.tuple #[.agg #[.int .i64 a, .int .i64 b], .int .i64 s]) ∧ Plus w w' := by
  have q := hJ.out
  cases x with
  | undef =>
    obtain ⟨A2, C2, c2, d2, rfl, h1, h2⟩ := hn
    simp only [numJ, N3.mk.injEq] at q
    obtain ⟨rfl, rfl, rfl⟩ := q
    exact number_undef w (Lib.hid hv)
  | null =>
    obtain ⟨A2, C2, c2, d2, rfl, h1, h2⟩ := hn
    simp only [numJ, N3.mk.injEq] at q
    obtain ⟨rfl, rfl, rfl⟩ := q
    exact number_null w (Lib.hid hv)
  | bool b0 =>
    obtain ⟨A2, C2, c2, d2, rfl, h1, h2⟩ := hn
    simp only [numJ, N3.mk.injEq] at q
    obtain ⟨rfl, rfl, rfl⟩ := q
    cases b0
    · exact number_fal w (Lib.hid hv)
    · exact number_tru w (Lib.hid hv)
  | num p2 q2 =>
    obtain ⟨A2, C2, c2, d2, rfl, h1, h2, h3⟩ := hn
    simp only [numJ, N3.mk.injEq] at q
    obtain ⟨rfl, rfl, rfl⟩ := q
    exact number_num w (Lib.hid hv)
  | big z =>
    obtain ⟨g2, A2, C2, xs2, n2, c2, d2, rfl, h1, h2, rfl, h4⟩ := hn
    simp only [numJ, N3.mk.injEq] at q
    obtain ⟨rfl, rfl, rfl⟩ := q
    exact number_big w (Lib.hid hv)
  | text us2 =>
    obtain ⟨A2, C2, c2, m2, d2, rfl, h1, h2, h3⟩ := hn
    exact number_text w (Lib.hid hv) (Lib.hid h3) (Lib.hid q) (by rw [h3.len]; exact h2) (Lib.hid hL)
  | obj r2 =>
    obtain ⟨A2, C2, c2, d2, rfl, h1, h2, h3⟩ := hn
    simp only [numJ, N3.mk.injEq] at q
    obtain ⟨rfl, rfl, rfl⟩ := q
    exact number_obj w (Lib.hid hv)
end Go.Proofs.YtakahpbondaidaaGreatDoor
namespace Go.Proofs.YtakahpbondaidaaGreatDoor
open Go.RowKit

theorem whole_v {p q a b : Int} (h : Hid (wholeR p q = ⟨a, b⟩)) (w : World) : Calls Tryz.prog 66 #[.agg #[.int .i64 p, .int .i64 q]] w fun e w' => e = .returned (.agg #[.int .i64 a, .int .i64 b]) ∧ Plus w w' := by
  have := whole_c p q w
  rw [h.out] at this
  exact this
set_option maxRecDepth 100000 in
set_option maxHeartbeats 4000000 in
theorem bool_undef {k p q : Int} {g : Bool} {A C : Option Addr} {n c m d : Nat} {r : Int} {A2 C2 : Option Addr} {c2 d2 : Nat} (w : World) (hv : Hid (Vld w (Value.agg #[.int .i64 k, .int .i64 p, .int .i64 q, .bool g, .slice A n c, .slice C m d, .int .i64 r]) (Value.agg #[.int .i64 0, .int .i64 0, .int .i64 0, .bool false, .slice A2 0 c2, .slice C2 0 d2, .int .i64 0]))) : Calls Tryz.prog 24 #[Value.agg #[.int .i64 k, .int .i64 p, .int .i64 q, .bool g, .slice A n c, .slice C m d, .int .i64 r]] w fun e w' => e = .returned (.bool false) ∧ Plus w w' := by
  go_enter Tryz.func24, Tryz.ntmps24
  go_wp2_with (go_at_call 43; (with_reducible refine (Vld.call hv.out (by repeat' (first | exact Plus.refl _ | refine Plus.alloc ?_ _ | refine Plus.plus ?_ _ | refine Plus.drew ?_ | refine Plus.drewN ?_ _))).mono ?_); rintro e w1 ⟨rfl, ⟨x1, rfl⟩⟩)
  go_returns
  exact ⟨rfl, (by repeat' (first | exact Plus.refl _ | refine Plus.alloc ?_ _ | refine Plus.plus ?_ _ | refine Plus.drew ?_ | refine Plus.drewN ?_ _))⟩
set_option maxRecDepth 100000 in
set_option maxHeartbeats 4000000 in
theorem bool_null {k p q : Int} {g : Bool} {A C : Option Addr} {n c m d : Nat} {r : Int} {A2 C2 : Option Addr} {c2 d2 : Nat} (w : World) (hv : Hid (Vld w (Value.agg #[.int .i64 k, .int .i64 p, .int .i64 q, .bool g, .slice A n c, .slice C m d, .int .i64 r]) (Value.agg #[.int .i64 1, .int .i64 0, .int .i64 0, .bool false, .slice A2 0 c2, .slice C2 0 d2, .int .i64 0]))) : Calls Tryz.prog 24 #[Value.agg #[.int .i64 k, .int .i64 p, .int .i64 q, .bool g, .slice A n c, .slice C m d, .int .i64 r]] w fun e w' => e = .returned (.bool false) ∧ Plus w w' := by
  go_enter Tryz.func24, Tryz.ntmps24
  go_wp2_with (go_at_call 43; (with_reducible refine (Vld.call hv.out (by repeat' (first | exact Plus.refl _ | refine Plus.alloc ?_ _ | refine Plus.plus ?_ _ | refine Plus.drew ?_ | refine Plus.drewN ?_ _))).mono ?_); rintro e w1 ⟨rfl, ⟨x1, rfl⟩⟩)
  go_returns
  exact ⟨rfl, (by repeat' (first | exact Plus.refl _ | refine Plus.alloc ?_ _ | refine Plus.plus ?_ _ | refine Plus.drew ?_ | refine Plus.drewN ?_ _))⟩
set_option maxRecDepth 100000 in
set_option maxHeartbeats 4000000 in
theorem bool_tru {k p q : Int} {g : Bool} {A C : Option Addr} {n c m d : Nat} {r : Int} {A2 C2 : Option Addr} {c2 d2 : Nat} (w : World) (hv : Hid (Vld w (Value.agg #[.int .i64 k, .int .i64 p, .int .i64 q, .bool g, .slice A n c, .slice C m d, .int .i64 r]) (Value.agg #[.int .i64 2, .int .i64 0, .int .i64 0, .bool false, .slice A2 0 c2, .slice C2 0 d2, .int .i64 1]))) : Calls Tryz.prog 24 #[Value.agg #[.int .i64 k, .int .i64 p, .int .i64 q, .bool g, .slice A n c, .slice C m d, .int .i64 r]] w fun e w' => e = .returned (.bool true) ∧ Plus w w' := by
  go_enter Tryz.func24, Tryz.ntmps24
  go_wp2_with (go_at_call 43; (with_reducible refine (Vld.call hv.out (by repeat' (first | exact Plus.refl _ | refine Plus.alloc ?_ _ | refine Plus.plus ?_ _ | refine Plus.drew ?_ | refine Plus.drewN ?_ _))).mono ?_); rintro e w1 ⟨rfl, ⟨x1, rfl⟩⟩)
  go_returns
  exact ⟨rfl, (by repeat' (first | exact Plus.refl _ | refine Plus.alloc ?_ _ | refine Plus.plus ?_ _ | refine Plus.drew ?_ | refine Plus.drewN ?_ _))⟩
set_option maxRecDepth 100000 in
set_option maxHeartbeats 4000000 in
theorem bool_fal {k p q : Int} {g : Bool} {A C : Option Addr} {n c m d : Nat} {r : Int} {A2 C2 : Option Addr} {c2 d2 : Nat} (w : World) (hv : Hid (Vld w (Value.agg #[.int .i64 k, .int .i64 p, .int .i64 q, .bool g, .slice A n c, .slice C m d, .int .i64 r]) (Value.agg #[.int .i64 2, .int .i64 0, .int .i64 0, .bool false, .slice A2 0 c2, .slice C2 0 d2, .int .i64 0]))) : Calls Tryz.prog 24 #[Value.agg #[.int .i64 k, .int .i64 p, .int .i64 q, .bool g, .slice A n c, .slice C m d, .int .i64 r]] w fun e w' => e = .returned (.bool false) ∧ Plus w w' := by
  go_enter Tryz.func24, Tryz.ntmps24
  go_wp2_with (go_at_call 43; (with_reducible refine (Vld.call hv.out (by repeat' (first | exact Plus.refl _ | refine Plus.alloc ?_ _ | refine Plus.plus ?_ _ | refine Plus.drew ?_ | refine Plus.drewN ?_ _))).mono ?_); rintro e w1 ⟨rfl, ⟨x1, rfl⟩⟩)
  go_returns
  exact ⟨rfl, (by repeat' (first | exact Plus.refl _ | refine Plus.alloc ?_ _ | refine Plus.plus ?_ _ | refine Plus.drew ?_ | refine Plus.drewN ?_ _))⟩
set_option maxRecDepth 100000 in
set_option maxHeartbeats 4000000 in
theorem bool0_num {k p q : Int} {g : Bool} {A C : Option Addr} {n c m d : Nat} {r : Int} {p2 q2 : Int} {A2 C2 : Option Addr} {c2 d2 : Nat} (w : World) (hv : Hid (Vld w (Value.agg #[.int .i64 k, .int .i64 p, .int .i64 q, .bool g, .slice A n c, .slice C m d, .int .i64 r]) (Value.agg #[.int .i64 3, .int .i64 p2, .int .i64 q2, .bool false, .slice A2 0 c2, .slice C2 0 d2, .int .i64 0])))  (hw : Hid (wholeR p2 q2 = ⟨0, 0⟩)) : Calls Tryz.prog 24 #[Value.agg #[.int .i64 k, .int .i64 p, .int .i64 q, .bool g, .slice A n c, .slice C m d, .int .i64 r]] w fun e w' => e = .returned (.bool false) ∧ Plus w w' := by
  go_enter Tryz.func24, Tryz.ntmps24
  go_wp2_with (first | (go_at_call 43; (with_reducible refine (Vld.call hv.out (by repeat' (first | exact Plus.refl _ | refine Plus.alloc ?_ _ | refine Plus.plus ?_ _ | refine Plus.drew ?_ | refine Plus.drewN ?_ _))).mono ?_); rintro e w1 ⟨rfl, ⟨x1, rfl⟩⟩) | (go_at_call 66; (with_reducible refine (whole_v hw _).mono ?_); rintro e w2 ⟨rfl, ⟨x2, rfl⟩⟩))
  go_returns
  exact ⟨rfl, (by repeat' (first | exact Plus.refl _ | refine Plus.alloc ?_ _ | refine Plus.plus ?_ _ | refine Plus.drew ?_ | refine Plus.drewN ?_ _))⟩
set_option maxRecDepth 100000 in
set_option maxHeartbeats 4000000 in
theorem bool1_num {k p q : Int} {g : Bool} {A C : Option Addr} {n c m d : Nat} {r : Int} {p2 q2 : Int} {A2 C2 : Option Addr} {c2 d2 : Nat} (w : World) (hv : Hid (Vld w (Value.agg #[.int .i64 k, .int .i64 p, .int .i64 q, .bool g, .slice A n c, .slice C m d, .int .i64 r]) (Value.agg #[.int .i64 3, .int .i64 p2, .int .i64 q2, .bool false, .slice A2 0 c2, .slice C2 0 d2, .int .i64 0]))) {a b : Int} (b0 : (a == 0) = false) (hw : Hid (wholeR p2 q2 = ⟨a, b⟩)) : Calls Tryz.prog 24 #[Value.agg #[.int .i64 k, .int .i64 p, .int .i64 q, .bool g, .slice A n c, .slice C m d, .int .i64 r]] w fun e w' => e = .returned (.bool true) ∧ Plus w w' := by
  go_enter Tryz.func24, Tryz.ntmps24
  go_wp2_with (first | (go_at_call 43; (with_reducible refine (Vld.call hv.out (by repeat' (first | exact Plus.refl _ | refine Plus.alloc ?_ _ | refine Plus.plus ?_ _ | refine Plus.drew ?_ | refine Plus.drewN ?_ _))).mono ?_); rintro e w1 ⟨rfl, ⟨x1, rfl⟩⟩) | (go_at_call 66; (with_reducible refine (whole_v hw _).mono ?_); rintro e w2 ⟨rfl, ⟨x2, rfl⟩⟩))
  go_returns
  exact ⟨rfl, (by repeat' (first | exact Plus.refl _ | refine Plus.alloc ?_ _ | refine Plus.plus ?_ _ | refine Plus.drew ?_ | refine Plus.drewN ?_ _))⟩
set_option maxRecDepth 100000 in
set_option maxHeartbeats 4000000 in
theorem bool2_num {k p q : Int} {g : Bool} {A C : Option Addr} {n c m d : Nat} {r : Int} {p2 q2 : Int} {A2 C2 : Option Addr} {c2 d2 : Nat} (w : World) (hv : Hid (Vld w (Value.agg #[.int .i64 k, .int .i64 p, .int .i64 q, .bool g, .slice A n c, .slice C m d, .int .i64 r]) (Value.agg #[.int .i64 3, .int .i64 p2, .int .i64 q2, .bool false, .slice A2 0 c2, .slice C2 0 d2, .int .i64 0]))) {b : Int} (b0 : (b == 0) = false) (hw : Hid (wholeR p2 q2 = ⟨0, b⟩)) : Calls Tryz.prog 24 #[Value.agg #[.int .i64 k, .int .i64 p, .int .i64 q, .bool g, .slice A n c, .slice C m d, .int .i64 r]] w fun e w' => e = .returned (.bool true) ∧ Plus w w' := by
  go_enter Tryz.func24, Tryz.ntmps24
  go_wp2_with (first | (go_at_call 43; (with_reducible refine (Vld.call hv.out (by repeat' (first | exact Plus.refl _ | refine Plus.alloc ?_ _ | refine Plus.plus ?_ _ | refine Plus.drew ?_ | refine Plus.drewN ?_ _))).mono ?_); rintro e w1 ⟨rfl, ⟨x1, rfl⟩⟩) | (go_at_call 66; (with_reducible refine (whole_v hw _).mono ?_); rintro e w2 ⟨rfl, ⟨x2, rfl⟩⟩))
  go_returns
  exact ⟨rfl, (by repeat' (first | exact Plus.refl _ | refine Plus.alloc ?_ _ | refine Plus.plus ?_ _ | refine Plus.drew ?_ | refine Plus.drewN ?_ _))⟩
theorem Bg.arg_nil {w : World} : Bg.Arg w none [] 0 0 := ⟨Bg.Lim.nil, rfl, by simp, by simp, by omega⟩
theorem bsame_v {an bn : Bool} {A C : Option Addr} {xs ys : List Nat} {n c m d : Nat} {a b : Int} {v : Bool} (hA : Hid (Bg.bigI an xs = a)) (hB : Hid (Bg.bigI bn ys = b)) (hr : Hid (decide (a = b) = v)) (w : World) (ha : Bg.Arg w A xs n c) (hb : Bg.Arg w C ys m d) :
    Calls Tryz.prog 67 #[.agg #[.bool an, .slice A n c], .agg #[.bool bn, .slice C m d]] w fun e w' => e = .returned (.bool v) ∧ Plus w w' := Bg.same_n hA hB hr w ha hb
set_option maxRecDepth 100000 in
set_option maxHeartbeats 4000000 in
theorem boolt_big {k p q : Int} {g : Bool} {A C : Option Addr} {n c m d : Nat} {r : Int} {g2 : Bool} {A2 C2 : Option Addr} {xs2 : List Nat} {n2 c2 d2 : Nat} (w : World) (hv : Hid (Vld w (Value.agg #[.int .i64 k, .int .i64 p, .int .i64 q, .bool g, .slice A n c, .slice C m d, .int .i64 r]) (Value.agg #[.int .i64 4, .int .i64 0, .int .i64 0, .bool g2, .slice A2 n2 c2, .slice C2 0 d2, .int .i64 0]))) (hb : Hid (Bg.Arg w A2 xs2 n2 c2)) {z : Int} (hz : Hid (Bg.bigI g2 xs2 = z)) (hB : Hid (Bg.bigI false [] = 0)) (hr : Hid (decide (z = 0) = true)) : Calls Tryz.prog 24 #[Value.agg #[.int .i64 k, .int .i64 p, .int .i64 q, .bool g, .slice A n c, .slice C m d, .int .i64 r]] w fun e w' => e = .returned (.bool false) ∧ Plus w w' := by
  go_enter Tryz.func24, Tryz.ntmps24
  go_wp2_with (first | (go_at_call 43; (with_reducible refine (Vld.call hv.out (by repeat' (first | exact Plus.refl _ | refine Plus.alloc ?_ _ | refine Plus.plus ?_ _ | refine Plus.drew ?_ | refine Plus.drewN ?_ _))).mono ?_); rintro e w1 ⟨rfl, ⟨x1, rfl⟩⟩) | (go_at_call 67; (with_reducible refine (bsame_v hz hB hr _ (hb.out.plus (by repeat' (first | exact Plus.refl _ | refine Plus.alloc ?_ _ | refine Plus.plus ?_ _ | refine Plus.drew ?_ | refine Plus.drewN ?_ _))) Bg.arg_nil).mono ?_); rintro e w2 ⟨rfl, ⟨x2, rfl⟩⟩))
  go_returns
  exact ⟨rfl, (by repeat' (first | exact Plus.refl _ | refine Plus.alloc ?_ _ | refine Plus.plus ?_ _ | refine Plus.drew ?_ | refine Plus.drewN ?_ _))⟩
set_option maxRecDepth 100000 in
set_option maxHeartbeats 4000000 in
theorem boolf_big {k p q : Int} {g : Bool} {A C : Option Addr} {n c m d : Nat} {r : Int} {g2 : Bool} {A2 C2 : Option Addr} {xs2 : List Nat} {n2 c2 d2 : Nat} (w : World) (hv : Hid (Vld w (Value.agg #[.int .i64 k, .int .i64 p, .int .i64 q, .bool g, .slice A n c, .slice C m d, .int .i64 r]) (Value.agg #[.int .i64 4, .int .i64 0, .int .i64 0, .bool g2, .slice A2 n2 c2, .slice C2 0 d2, .int .i64 0]))) (hb : Hid (Bg.Arg w A2 xs2 n2 c2)) {z : Int} (hz : Hid (Bg.bigI g2 xs2 = z)) (hB : Hid (Bg.bigI false [] = 0)) (hr : Hid (decide (z = 0) = false)) : Calls Tryz.prog 24 #[Value.agg #[.int .i64 k, .int .i64 p, .int .i64 q, .bool g, .slice A n c, .slice C m d, .int .i64 r]] w fun e w' => e = .returned (.bool true) ∧ Plus w w' := by
  go_enter Tryz.func24, Tryz.ntmps24
  go_wp2_with (first | (go_at_call 43; (with_reducible refine (Vld.call hv.out (by repeat' (first | exact Plus.refl _ | refine Plus.alloc ?_ _ | refine Plus.plus ?_ _ | refine Plus.drew ?_ | refine Plus.drewN ?_ _))).mono ?_); rintro e w1 ⟨rfl, ⟨x1, rfl⟩⟩) | (go_at_call 67; (with_reducible refine (bsame_v hz hB hr _ (hb.out.plus (by repeat' (first | exact Plus.refl _ | refine Plus.alloc ?_ _ | refine Plus.plus ?_ _ | refine Plus.drew ?_ | refine Plus.drewN ?_ _))) Bg.arg_nil).mono ?_); rintro e w2 ⟨rfl, ⟨x2, rfl⟩⟩))
  go_returns
  exact ⟨rfl, (by repeat' (first | exact Plus.refl _ | refine Plus.alloc ?_ _ | refine Plus.plus ?_ _ | refine Plus.drew ?_ | refine Plus.drewN ?_ _))⟩
set_option maxRecDepth 100000 in
set_option maxHeartbeats 4000000 in
theorem bool0_text {k p q : Int} {g : Bool} {A C : Option Addr} {n c m d : Nat} {r : Int} {A2 C2 : Option Addr} {c2 m2 d2 : Nat} (w : World) (hv : Hid (Vld w (Value.agg #[.int .i64 k, .int .i64 p, .int .i64 q, .bool g, .slice A n c, .slice C m d, .int .i64 r]) (Value.agg #[.int .i64 5, .int .i64 0, .int .i64 0, .bool false, .slice A2 0 c2, .slice C2 m2 d2, .int .i64 0]))) (b0 : m2 = 0) : Calls Tryz.prog 24 #[Value.agg #[.int .i64 k, .int .i64 p, .int .i64 q, .bool g, .slice A n c, .slice C m d, .int .i64 r]] w fun e w' => e = .returned (.bool false) ∧ Plus w w' := by
  subst b0
  go_enter Tryz.func24, Tryz.ntmps24
  go_wp2_with (go_at_call 43; (with_reducible refine (Vld.call hv.out (by repeat' (first | exact Plus.refl _ | refine Plus.alloc ?_ _ | refine Plus.plus ?_ _ | refine Plus.drew ?_ | refine Plus.drewN ?_ _))).mono ?_); rintro e w1 ⟨rfl, ⟨x1, rfl⟩⟩)
  go_returns
  exact ⟨rfl, (by repeat' (first | exact Plus.refl _ | refine Plus.alloc ?_ _ | refine Plus.plus ?_ _ | refine Plus.drew ?_ | refine Plus.drewN ?_ _))⟩
set_option maxRecDepth 100000 in
set_option maxHeartbeats 4000000 in
theorem bool1_text {k p q : Int} {g : Bool} {A C : Option Addr} {n c m d : Nat} {r : Int} {A2 C2 : Option Addr} {c2 m2 d2 : Nat} (w : World) (hv : Hid (Vld w (Value.agg #[.int .i64 k, .int .i64 p, .int .i64 q, .bool g, .slice A n c, .slice C m d, .int .i64 r]) (Value.agg #[.int .i64 5, .int .i64 0, .int .i64 0, .bool false, .slice A2 0 c2, .slice C2 m2 d2, .int .i64 0]))) (b0 : 0 < m2) : Calls Tryz.prog 24 #[Value.agg #[.int .i64 k, .int .i64 p, .int .i64 q, .bool g, .slice A n c, .slice C m d, .int .i64 r]] w fun e w' => e = .returned (.bool true) ∧ Plus w w' := by
  go_enter Tryz.func24, Tryz.ntmps24
  go_wp2_with (go_at_call 43; (with_reducible refine (Vld.call hv.out (by repeat' (first | exact Plus.refl _ | refine Plus.alloc ?_ _ | refine Plus.plus ?_ _ | refine Plus.drew ?_ | refine Plus.drewN ?_ _))).mono ?_); rintro e w1 ⟨rfl, ⟨x1, rfl⟩⟩)
  go_returns
  exact ⟨rfl, (by repeat' (first | exact Plus.refl _ | refine Plus.alloc ?_ _ | refine Plus.plus ?_ _ | refine Plus.drew ?_ | refine Plus.drewN ?_ _))⟩
set_option maxRecDepth 100000 in
set_option maxHeartbeats 4000000 in
theorem bool_obj {k p q : Int} {g : Bool} {A C : Option Addr} {n c m d : Nat} {r : Int} {A2 C2 : Option Addr} {c2 d2 : Nat} {r2 : Int} (w : World) (hv : Hid (Vld w (Value.agg #[.int .i64 k, .int .i64 p, .int .i64 q, .bool g, .slice A n c, .slice C m d, .int .i64 r]) (Value.agg #[.int .i64 6, .int .i64 0, .int .i64 0, .bool false, .slice A2 0 c2, .slice C2 0 d2, .int .i64 r2]))) : Calls Tryz.prog 24 #[Value.agg #[.int .i64 k, .int .i64 p, .int .i64 q, .bool g, .slice A n c, .slice C m d, .int .i64 r]] w fun e w' => e = .returned (.bool true) ∧ Plus w w' := by
  go_enter Tryz.func24, Tryz.ntmps24
  go_wp2_with (go_at_call 43; (with_reducible refine (Vld.call hv.out (by repeat' (first | exact Plus.refl _ | refine Plus.alloc ?_ _ | refine Plus.plus ?_ _ | refine Plus.drew ?_ | refine Plus.drewN ?_ _))).mono ?_); rintro e w1 ⟨rfl, ⟨x1, rfl⟩⟩)
  go_returns
  exact ⟨rfl, (by repeat' (first | exact Plus.refl _ | refine Plus.alloc ?_ _ | refine Plus.plus ?_ _ | refine Plus.drew ?_ | refine Plus.drewN ?_ _))⟩
def boolJ : JV → Bool
  | .undef => false
  | .null => false
  | .bool b => b
  | .num p q => !((wholeR p q).k == 0 && (wholeR p q).n == 0)
  | .big z => !decide (z = 0)
  | .text us => !us.isEmpty
  | .obj _ => true
theorem cbool_v {k p q : Int} {g : Bool} {A C : Option Addr} {n c m d : Nat} {r : Int} {v' : Value} {x : JV} {z : Bool} (hJ : Hid (boolJ x = z)) (w : World) (hn : NV w v' x) (hv : Vld w (Value.agg #[.int .i64 k, .int .i64 p, .int .i64 q, .bool g, .slice A n c, .slice C m d, .int .i64 r]) v') :
    Calls Tryz.prog 24 #[Value.agg #[.int .i64 k, .int .i64 p, .int .i64 q, .bool g, .slice A n c, .slice C m d, .int .i64 r]] w fun e w' => e = .returned (.bool z) ∧ Plus w w' := by
  obtain rfl := hJ.out
  cases x with
  | undef => obtain ⟨A2, C2, c2, d2, rfl, h1, h2⟩ := hn; exact bool_undef w (Lib.hid hv)
  | null => obtain ⟨A2, C2, c2, d2, rfl, h1, h2⟩ := hn; exact bool_null w (Lib.hid hv)
  | bool b0 =>
    obtain ⟨A2, C2, c2, d2, rfl, h1, h2⟩ := hn
    cases b0
    · exact bool_fal w (Lib.hid hv)
    · exact bool_tru w (Lib.hid hv)
  | num p2 q2 =>
    obtain ⟨A2, C2, c2, d2, rfl, h1, h2, h3⟩ := hn
    obtain ⟨a, b, hw⟩ : ∃ a b, wholeR p2 q2 = ⟨a, b⟩ := ⟨_, _, rfl⟩
    by_cases ha : a = 0
    · subst ha
      by_cases hb : b = 0
      · subst hb
        rw [show boolJ (.num p2 q2) = false by simp [boolJ, hw]]
        exact bool0_num w (Lib.hid hv) (Lib.hid hw)
      · rw [show boolJ (.num p2 q2) = true by simp [boolJ, hw, hb]]
        exact bool2_num w (Lib.hid hv) (beq_f hb) (Lib.hid hw)
    · rw [show boolJ (.num p2 q2) = true by simp [boolJ, hw, ha]]
      exact bool1_num w (Lib.hid hv) (beq_f ha) (Lib.hid hw)
  | big z =>
    obtain ⟨g2, A2, C2, xs2, n2, c2, d2, rfl, h1, h2, rfl, h4⟩ := hn
    by_cases hz : Bg.bigI g2 xs2 = 0
    · rw [show boolJ (.big (Bg.bigI g2 xs2)) = false by simp [boolJ, hz]]
      exact boolt_big w (Lib.hid hv) (Lib.hid h4) (Lib.hid rfl) (Lib.hid (by decide)) (Lib.hid (by simp [hz]))
    · rw [show boolJ (.big (Bg.bigI g2 xs2)) = true by simp [boolJ, hz]]
      exact boolf_big w (Lib.hid hv) (Lib.hid h4) (Lib.hid rfl) (Lib.hid (by decide)) (Lib.hid (by simp [hz]))
  | text us2 =>
    obtain ⟨A2, C2, c2, m2, d2, rfl, h1, h2, h3⟩ := hn
    have hl := h3.len
    cases us2 with
    | nil => exact bool0_text w (Lib.hid hv) hl
    | cons u us => exact bool1_text w (Lib.hid hv) (by rw [hl]; simp)
  | obj r2 => obtain ⟨A2, C2, c2, d2, rfl, h1, h2, h3⟩ := hn; exact bool_obj w (Lib.hid hv)
end Go.Proofs.YtakahpbondaidaaGreatDoor
namespace Go.Proofs.YtakahpbondaidaaGreatDoor
open Go.RowKit

set_option maxRecDepth 100000 in
set_option maxHeartbeats 4000000 in
theorem truth_t (w : World) : Calls Tryz.prog 39 #[.bool true] w fun e w' => e = .returned (Value.agg #[.int .i64 2, .int .i64 0, .int .i64 0, .bool false, .slice none 0 0, .slice none 0 0, .int .i64 1]) ∧ Plus w w' := by
  go_enter Tryz.func39, Tryz.ntmps39
  go_wp2_with fail
  go_returns
  exact ⟨rfl, (by repeat' (first | exact Plus.refl _ | refine Plus.alloc ?_ _ | refine Plus.plus ?_ _ | refine Plus.drew ?_ | refine Plus.drewN ?_ _))⟩
set_option maxRecDepth 100000 in
set_option maxHeartbeats 4000000 in
theorem truth_f (w : World) : Calls Tryz.prog 39 #[.bool false] w fun e w' => e = .returned (Value.agg #[.int .i64 2, .int .i64 0, .int .i64 0, .bool false, .slice none 0 0, .slice none 0 0, .int .i64 0]) ∧ Plus w w' := by
  go_enter Tryz.func39, Tryz.ntmps39
  go_wp2_with fail
  go_returns
  exact ⟨rfl, (by repeat' (first | exact Plus.refl _ | refine Plus.alloc ?_ _ | refine Plus.plus ?_ _ | refine Plus.drew ?_ | refine Plus.drewN ?_ _))⟩
theorem truth_c (b : Bool) (w : World) : Calls Tryz.prog 39 #[.bool b] w fun e w' => e = .returned (Value.agg #[.int .i64 2, .int .i64 0, .int .i64 0, .bool false, .slice none 0 0, .slice none 0 0, .int .i64 (bit b)]) ∧ Plus w w' := by
  cases b
  · exact truth_f w
  · exact truth_t w
set_option maxRecDepth 100000 in
set_option maxHeartbeats 4000000 in
theorem cnum_c (p q : Int) (w : World) : Calls Tryz.prog 49 #[.agg #[.int .i64 p, .int .i64 q]] w fun e w' => e = .returned (Value.agg #[.int .i64 3, .int .i64 p, .int .i64 q, .bool false, .slice none 0 0, .slice none 0 0, .int .i64 0]) ∧ Plus w w' := by
  go_enter Tryz.func49, Tryz.ntmps49
  go_wp2_with fail
  go_returns
  exact ⟨rfl, (by repeat' (first | exact Plus.refl _ | refine Plus.alloc ?_ _ | refine Plus.plus ?_ _ | refine Plus.drew ?_ | refine Plus.drewN ?_ _))⟩
set_option maxRecDepth 100000 in
set_option maxHeartbeats 4000000 in
theorem whole_k (z : Int) (w : World) : Calls Tryz.prog 79 #[.int .i64 z] w fun e w' => e = .returned (Value.agg #[.int .i64 3, .int .i64 0, .int .i64 z, .bool false, .slice none 0 0, .slice none 0 0, .int .i64 0]) ∧ Plus w w' := by
  go_enter Tryz.func79, Tryz.ntmps79
  go_wp2_with fail
  go_returns
  exact ⟨rfl, (by repeat' (first | exact Plus.refl _ | refine Plus.alloc ?_ _ | refine Plus.plus ?_ _ | refine Plus.drew ?_ | refine Plus.drewN ?_ _))⟩
/-- A slice of units stands though an older block that holds no unit is written anew. -/
theorem Rd.turn {k : IntKind} {w : World} {cs cs' : Array Value} {e e' : TypeId} {x : More} {A : Option Addr} {xs : List Nat} (h : Rd k (_root_.Go.Proofs.YtakahpbondaidaaGreatDoor.plus (w.alloc (.cells cs e)) x) A xs) (hc : ∀ v ∈ cs, ∀ z, v ≠ .int k z) : Rd k (_root_.Go.Proofs.YtakahpbondaidaaGreatDoor.plus (w.alloc (.cells cs' e')) x) A xs := fun h0 => by
  obtain ⟨g, o, rfl, hg, ha⟩ := h h0
  have hne : g ≠ w.heap.size := fun hE => by
    subst hE
    have q := ha 0 h0
    rw [cell?_plus (w.alloc (.cells cs e)) x _ _ (by rw [World.size_alloc]; exact Nat.lt_succ_self _), World.cell?_alloc_at _ _ _ _ rfl] at q
    exact hc _ (Array.mem_of_getElem? q) _ rfl
  refine ⟨g, o, rfl, by rw [size_plus, World.size_alloc] at hg ⊢; exact hg, fun j hj => ?_⟩
  rw [← ha j hj]
  apply World.cell?_of_block
  simp only [_root_.Go.Proofs.YtakahpbondaidaaGreatDoor.plus, World.alloc]
  rw [Array.getElem?_append, Array.getElem?_append]
  simp only [Array.size_push]
  by_cases hl : g < w.heap.size + 1
  · rw [if_pos hl, if_pos hl, Array.getElem?_push, Array.getElem?_push, if_neg hne, if_neg hne]
  · rw [if_neg hl, if_neg hl]
theorem Ar.turn {k : IntKind} {K : Nat} {w : World} {cs cs' : Array Value} {e e' : TypeId} {x : More} {A : Option Addr} {xs : List Nat} {n c : Nat} (h : Ar k K (_root_.Go.Proofs.YtakahpbondaidaaGreatDoor.plus (w.alloc (.cells cs e)) x) A xs n c) (hc : ∀ v ∈ cs, ∀ z, v ≠ .int k z) : Ar k K (_root_.Go.Proofs.YtakahpbondaidaaGreatDoor.plus (w.alloc (.cells cs' e')) x) A xs n c :=
  ⟨h.rd.turn hc, h.len, h.cap, h.max, h.bd⟩
/-- A text's value, new. -/
def StrP (us : List Nat) (m : Nat) (w : World) (e : Ending) (w' : World) : Prop :=
  ∃ (D : Option Addr) (k : Nat), e = .returned (Value.agg #[.int .i64 5, .int .i64 0, .int .i64 0, .bool false, .slice none 0 0, .slice D m k, .int .i64 0]) ∧ Ar .u16 65536 w' D us m k ∧ Plus w w'
theorem no16 : ∀ v ∈ (#[.int .i64 0, .int .i64 0, .int .i64 0, .bool false, .slice none 0 0, .slice none 0 0, .int .i64 0] : Array Value), ∀ z, v ≠ .int .u16 z := by simp
theorem rascii_n {s : ByteArray} {xs : List Nat} {n : Nat} (hx : Hid (nats s = xs ∧ n = xs.length)) (w : World) (hs : s.size ≤ 1048576) : Calls Tryz.prog 61 #[.string s] w fun e w' => ∃ (A : Option Addr) (c : Nat), e = .returned (.slice A n c) ∧ Ar .u16 65536 w' A xs n c ∧ Plus w w' := refAscii_n s hs xs n hx w
theorem ascii_v {s : ByteArray} {xs : List Nat} {n : Nat} (hx : Hid (nats s = xs ∧ n = xs.length)) (w : World) (hs : s.size ≤ 140737488355328) : Calls Tryz.prog 57 #[.string s] w fun e w' => ∃ (A : Option Addr) (c : Nat), e = .returned (.slice A n c) ∧ Ar .u16 65536 w' A xs n c ∧ Plus w w' := ascii_n s hs xs n hx w
set_option maxRecDepth 100000 in
set_option maxHeartbeats 4000000 in
theorem str_v {s : ByteArray} {xs : List Nat} {n : Nat} (hx : Hid (nats s = xs ∧ n = xs.length)) (w : World) (hs : s.size ≤ 1048576) : Calls Tryz.prog 78 #[.string s] w (StrP xs n w) := by
  go_enter Tryz.func78, Tryz.ntmps78
  go_wp2_with (go_at_call 61; (with_reducible refine (rascii_n hx _ hs).mono ?_); rintro e w1 ⟨D, k, rfl, hD, ⟨x1, rfl⟩⟩; have HD := Lib.hid hD; clear hD)
  go_returns
  exact ⟨D, k, rfl, HD.out.turn no16, (by repeat' (first | exact Plus.refl _ | refine Plus.alloc ?_ _ | refine Plus.plus ?_ _ | refine Plus.drew ?_ | refine Plus.drewN ?_ _))⟩
set_option maxRecDepth 100000 in
set_option maxHeartbeats 4000000 in
theorem cstr_y {A : Option Addr} {us : List Nat} {n c : Nat} (w : World) (h : Ar .u16 65536 w A us n c) (hl : n ≤ 4096) : Calls Tryz.prog 247 #[.slice A n c] w (StrP us n w) := by
  have HU := Lib.hid h
  have hc := h.cap
  have hm := h.max
  clear h
  have b0 : min (n : Int) 4096 = n := by omega
  go_enter Tryz.func247, Tryz.ntmps247
  go_wp2_with (go_at_call 60; (with_reducible refine (clone16_n _ (HU.out.plus (by repeat' (first | exact Plus.refl _ | refine Plus.alloc ?_ _ | refine Plus.plus ?_ _ | refine Plus.drew ?_ | refine Plus.drewN ?_ _))) (by omega)).mono ?_); rintro e w1 ⟨D, k, rfl, hD, ⟨x1, rfl⟩⟩; have HD := Lib.hid hD; clear hD)
  go_returns
  exact ⟨D, k, rfl, HD.out.turn no16, (by repeat' (first | exact Plus.refl _ | refine Plus.alloc ?_ _ | refine Plus.plus ?_ _ | refine Plus.drew ?_ | refine Plus.drewN ?_ _))⟩
end Go.Proofs.YtakahpbondaidaaGreatDoor

namespace Go.Proofs.YtakahpbondaidaaGreatDoor
open Go.RowKit

/-- A text that comes with a signal. -/
def TxtP (us : List Nat) (m : Nat) (s : Int) (w : World) (e : Ending) (w' : World) : Prop :=
  ∃ (D : Option Addr) (k : Nat), e = .returned (.tuple #[.slice D m k, .int .i64 s]) ∧ Ar .u16 65536 w' D us m k ∧ Plus w w'
set_option maxRecDepth 100000 in
set_option maxHeartbeats 4000000 in
theorem text_undef {k p q : Int} {g : Bool} {A C : Option Addr} {n c m d : Nat} {r : Int} {A2 C2 : Option Addr} {c2 d2 : Nat} (w : World) (hv : Hid (Vld w (Value.agg #[.int .i64 k, .int .i64 p, .int .i64 q, .bool g, .slice A n c, .slice C m d, .int .i64 r]) (Value.agg #[.int .i64 0, .int .i64 0, .int .i64 0, .bool false, .slice A2 0 c2, .slice C2 0 d2, .int .i64 0]))) {ts : List Nat} {m2 : Nat} (hx : Hid (nats ⟨#[117, 110, 100, 101, 102, 105, 110, 101, 100]⟩ = ts ∧ m2 = ts.length)) (hs2 : (⟨#[117, 110, 100, 101, 102, 105, 110, 101, 100]⟩ : ByteArray).size ≤ 140737488355328) : Calls Tryz.prog 19 #[Value.agg #[.int .i64 k, .int .i64 p, .int .i64 q, .bool g, .slice A n c, .slice C m d, .int .i64 r]] w (TxtP ts m2 0 w) := by
  go_enter Tryz.func19, Tryz.ntmps19
  go_wp2_with (first | (go_at_call 43; (with_reducible refine (Vld.call hv.out (by repeat' (first | exact Plus.refl _ | refine Plus.alloc ?_ _ | refine Plus.plus ?_ _ | refine Plus.drew ?_ | refine Plus.drewN ?_ _))).mono ?_); rintro e w1 ⟨rfl, ⟨x1, rfl⟩⟩) | (go_at_call 57; (with_reducible refine (ascii_v hx _ hs2).mono ?_); rintro e w2 ⟨D, k2, rfl, hD, ⟨x2, rfl⟩⟩; have HD := Lib.hid hD; clear hD))
  go_returns
  exact ⟨D, k2, rfl, HD.out, (by repeat' (first | exact Plus.refl _ | refine Plus.alloc ?_ _ | refine Plus.plus ?_ _ | refine Plus.drew ?_ | refine Plus.drewN ?_ _))⟩
set_option maxRecDepth 100000 in
set_option maxHeartbeats 4000000 in
theorem text_null {k p q : Int} {g : Bool} {A C : Option Addr} {n c m d : Nat} {r : Int} {A2 C2 : Option Addr} {c2 d2 : Nat} (w : World) (hv : Hid (Vld w (Value.agg #[.int .i64 k, .int .i64 p, .int .i64 q, .bool g, .slice A n c, .slice C m d, .int .i64 r]) (Value.agg #[.int .i64 1, .int .i64 0, .int .i64 0, .bool false, .slice A2 0 c2, .slice C2 0 d2, .int .i64 0]))) {ts : List Nat} {m2 : Nat} (hx : Hid (nats ⟨#[110, 117, 108, 108]⟩ = ts ∧ m2 = ts.length)) (hs2 : (⟨#[110, 117, 108, 108]⟩ : ByteArray).size ≤ 140737488355328) : Calls Tryz.prog 19 #[Value.agg #[.int .i64 k, .int .i64 p, .int .i64 q, .bool g, .slice A n c, .slice C m d, .int .i64 r]] w (TxtP ts m2 0 w) := by
  go_enter Tryz.func19, Tryz.ntmps19
  go_wp2_with (first | (go_at_call 43; (with_reducible refine (Vld.call hv.out (by repeat' (first | exact Plus.refl _ | refine Plus.alloc ?_ _ | refine Plus.plus ?_ _ | refine Plus.drew ?_ | refine Plus.drewN ?_ _))).mono ?_); rintro e w1 ⟨rfl, ⟨x1, rfl⟩⟩) | (go_at_call 57; (with_reducible refine (ascii_v hx _ hs2).mono ?_); rintro e w2 ⟨D, k2, rfl, hD, ⟨x2, rfl⟩⟩; have HD := Lib.hid hD; clear hD))
  go_returns
  exact ⟨D, k2, rfl, HD.out, (by repeat' (first | exact Plus.refl _ | refine Plus.alloc ?_ _ | refine Plus.plus ?_ _ | refine Plus.drew ?_ | refine Plus.drewN ?_ _))⟩
set_option maxRecDepth 100000 in
set_option maxHeartbeats 4000000 in
theorem text_tru {k p q : Int} {g : Bool} {A C : Option Addr} {n c m d : Nat} {r : Int} {A2 C2 : Option Addr} {c2 d2 : Nat} (w : World) (hv : Hid (Vld w (Value.agg #[.int .i64 k, .int .i64 p, .int .i64 q, .bool g, .slice A n c, .slice C m d, .int .i64 r]) (Value.agg #[.int .i64 2, .int .i64 0, .int .i64 0, .bool false, .slice A2 0 c2, .slice C2 0 d2, .int .i64 1]))) {ts : List Nat} {m2 : Nat} (hx : Hid (nats ⟨#[116, 114, 117, 101]⟩ = ts ∧ m2 = ts.length)) (hs2 : (⟨#[116, 114, 117, 101]⟩ : ByteArray).size ≤ 140737488355328) : Calls Tryz.prog 19 #[Value.agg #[.int .i64 k, .int .i64 p, .int .i64 q, .bool g, .slice A n c, .slice C m d, .int .i64 r]] w (TxtP ts m2 0 w) := by
  go_enter Tryz.func19, Tryz.ntmps19
  go_wp2_with (first | (go_at_call 43; (with_reducible refine (Vld.call hv.out (by repeat' (first | exact Plus.refl _ | refine Plus.alloc ?_ _ | refine Plus.plus ?_ _ | refine Plus.drew ?_ | refine Plus.drewN ?_ _))).mono ?_); rintro e w1 ⟨rfl, ⟨x1, rfl⟩⟩) | (go_at_call 57; (with_reducible refine (ascii_v hx _ hs2).mono ?_); rintro e w2 ⟨D, k2, rfl, hD, ⟨x2, rfl⟩⟩; have HD := Lib.hid hD; clear hD))
  go_returns
  exact ⟨D, k2, rfl, HD.out, (by repeat' (first | exact Plus.refl _ | refine Plus.alloc ?_ _ | refine Plus.plus ?_ _ | refine Plus.drew ?_ | refine Plus.drewN ?_ _))⟩
set_option maxRecDepth 100000 in
set_option maxHeartbeats 4000000 in
theorem text_fal {k p q : Int} {g : Bool} {A C : Option Addr} {n c m d : Nat} {r : Int} {A2 C2 : Option Addr} {c2 d2 : Nat} (w : World) (hv : Hid (Vld w (Value.agg #[.int .i64 k, .int .i64 p, .int .i64 q, .bool g, .slice A n c, .slice C m d, .int .i64 r]) (Value.agg #[.int .i64 2, .int .i64 0, .int .i64 0, .bool false, .slice A2 0 c2, .slice C2 0 d2, .int .i64 0]))) {ts : List Nat} {m2 : Nat} (hx : Hid (nats ⟨#[102, 97, 108, 115, 101]⟩ = ts ∧ m2 = ts.length)) (hs2 : (⟨#[102, 97, 108, 115, 101]⟩ : ByteArray).size ≤ 140737488355328) : Calls Tryz.prog 19 #[Value.agg #[.int .i64 k, .int .i64 p, .int .i64 q, .bool g, .slice A n c, .slice C m d, .int .i64 r]] w (TxtP ts m2 0 w) := by
  go_enter Tryz.func19, Tryz.ntmps19
  go_wp2_with (first | (go_at_call 43; (with_reducible refine (Vld.call hv.out (by repeat' (first | exact Plus.refl _ | refine Plus.alloc ?_ _ | refine Plus.plus ?_ _ | refine Plus.drew ?_ | refine Plus.drewN ?_ _))).mono ?_); rintro e w1 ⟨rfl, ⟨x1, rfl⟩⟩) | (go_at_call 57; (with_reducible refine (ascii_v hx _ hs2).mono ?_); rintro e w2 ⟨D, k2, rfl, hD, ⟨x2, rfl⟩⟩; have HD := Lib.hid hD; clear hD))
  go_returns
  exact ⟨D, k2, rfl, HD.out, (by repeat' (first | exact Plus.refl _ | refine Plus.alloc ?_ _ | refine Plus.plus ?_ _ | refine Plus.drew ?_ | refine Plus.drewN ?_ _))⟩
set_option maxRecDepth 100000 in
set_option maxHeartbeats 4000000 in
theorem text_num {k p q : Int} {g : Bool} {A C : Option Addr} {n c m d : Nat} {r : Int} {p2 q2 : Int} {A2 C2 : Option Addr} {c2 d2 : Nat} (w : World) (hv : Hid (Vld w (Value.agg #[.int .i64 k, .int .i64 p, .int .i64 q, .bool g, .slice A n c, .slice C m d, .int .i64 r]) (Value.agg #[.int .i64 3, .int .i64 p2, .int .i64 q2, .bool false, .slice A2 0 c2, .slice C2 0 d2, .int .i64 0]))) {T : ByteArray} {ts : List Nat} {m2 : Nat} (hT : Hid ((⟨(txtR p2 q2).toArray⟩ : ByteArray) = T)) (hL : Hid (Lai w)) (hx : Hid (nats T = ts ∧ m2 = ts.length)) (hs2 : T.size ≤ 140737488355328) : Calls Tryz.prog 19 #[Value.agg #[.int .i64 k, .int .i64 p, .int .i64 q, .bool g, .slice A n c, .slice C m d, .int .i64 r]] w (TxtP ts m2 0 w) := by
  go_enter Tryz.func19, Tryz.ntmps19
  go_wp2_with (first | (go_at_call 43; (with_reducible refine (Vld.call hv.out (by repeat' (first | exact Plus.refl _ | refine Plus.alloc ?_ _ | refine Plus.plus ?_ _ | refine Plus.drew ?_ | refine Plus.drewN ?_ _))).mono ?_); rintro e w1 ⟨rfl, ⟨x1, rfl⟩⟩) | (go_at_call 58; (with_reducible refine (text_v hT _ (hL.out.plus (by repeat' (first | exact Plus.refl _ | refine Plus.alloc ?_ _ | refine Plus.plus ?_ _ | refine Plus.drew ?_ | refine Plus.drewN ?_ _)))).mono ?_); rintro e w2 ⟨rfl, ⟨x3, rfl⟩⟩) | (go_at_call 57; (with_reducible refine (ascii_v hx _ hs2).mono ?_); rintro e w2 ⟨D, k2, rfl, hD, ⟨x2, rfl⟩⟩; have HD := Lib.hid hD; clear hD))
  go_returns
  exact ⟨D, k2, rfl, HD.out, (by repeat' (first | exact Plus.refl _ | refine Plus.alloc ?_ _ | refine Plus.plus ?_ _ | refine Plus.drew ?_ | refine Plus.drewN ?_ _))⟩
theorem btext_v {an : Bool} {A : Option Addr} {xs : List Nat} {n c : Nat} {a : Int} (hA : Hid (Bg.bigI an xs = a)) {T : ByteArray} (hr : Hid ((⟨(Bg.txt a).toArray⟩ : ByteArray) = T)) (w : World) (ha : Bg.Arg w A xs n c) : Calls Tryz.prog 59 #[.agg #[.bool an, .slice A n c]] w fun e w' => e = .returned (.string T) ∧ Plus w w' := Bg.text_n hA hr w ha
set_option maxRecDepth 100000 in
set_option maxHeartbeats 4000000 in
theorem text_big {k p q : Int} {g : Bool} {A C : Option Addr} {n c m d : Nat} {r : Int} {g2 : Bool} {A2 C2 : Option Addr} {xs2 : List Nat} {n2 c2 d2 : Nat} (w : World) (hv : Hid (Vld w (Value.agg #[.int .i64 k, .int .i64 p, .int .i64 q, .bool g, .slice A n c, .slice C m d, .int .i64 r]) (Value.agg #[.int .i64 4, .int .i64 0, .int .i64 0, .bool g2, .slice A2 n2 c2, .slice C2 0 d2, .int .i64 0]))) (hb : Hid (Bg.Arg w A2 xs2 n2 c2)) {z : Int} {T : ByteArray} {ts : List Nat} {m2 : Nat} (hz : Hid (Bg.bigI g2 xs2 = z)) (hT : Hid ((⟨(Bg.txt z).toArray⟩ : ByteArray) = T)) (hx : Hid (nats T = ts ∧ m2 = ts.length)) (hs2 : T.size ≤ 140737488355328) : Calls Tryz.prog 19 #[Value.agg #[.int .i64 k, .int .i64 p, .int .i64 q, .bool g, .slice A n c, .slice C m d, .int .i64 r]] w (TxtP ts m2 0 w) := by
  go_enter Tryz.func19, Tryz.ntmps19
  go_wp2_with (first | (go_at_call 43; (with_reducible refine (Vld.call hv.out (by repeat' (first | exact Plus.refl _ | refine Plus.alloc ?_ _ | refine Plus.plus ?_ _ | refine Plus.drew ?_ | refine Plus.drewN ?_ _))).mono ?_); rintro e w1 ⟨rfl, ⟨x1, rfl⟩⟩) | (go_at_call 59; (with_reducible refine (btext_v hz hT _ (hb.out.plus (by repeat' (first | exact Plus.refl _ | refine Plus.alloc ?_ _ | refine Plus.plus ?_ _ | refine Plus.drew ?_ | refine Plus.drewN ?_ _)))).mono ?_); rintro e w2 ⟨rfl, ⟨x3, rfl⟩⟩) | (go_at_call 57; (with_reducible refine (ascii_v hx _ hs2).mono ?_); rintro e w2 ⟨D, k2, rfl, hD, ⟨x2, rfl⟩⟩; have HD := Lib.hid hD; clear hD))
  go_returns
  exact ⟨D, k2, rfl, HD.out, (by repeat' (first | exact Plus.refl _ | refine Plus.alloc ?_ _ | refine Plus.plus ?_ _ | refine Plus.drew ?_ | refine Plus.drewN ?_ _))⟩
set_option maxRecDepth 100000 in
set_option maxHeartbeats 4000000 in
theorem text_text {k p q : Int} {g : Bool} {A C : Option Addr} {n c m d : Nat} {r : Int} {A2 C2 : Option Addr} {us2 : List Nat} {c2 m2 d2 : Nat} (w : World) (hv : Hid (Vld w (Value.agg #[.int .i64 k, .int .i64 p, .int .i64 q, .bool g, .slice A n c, .slice C m d, .int .i64 r]) (Value.agg #[.int .i64 5, .int .i64 0, .int .i64 0, .bool false, .slice A2 0 c2, .slice C2 m2 d2, .int .i64 0]))) (hs : Hid (Ar .u16 65536 w C2 us2 m2 d2)) (hm : m2 ≤ 4096) : Calls Tryz.prog 19 #[Value.agg #[.int .i64 k, .int .i64 p, .int .i64 q, .bool g, .slice A n c, .slice C m d, .int .i64 r]] w (TxtP us2 m2 0 w) := by
  go_enter Tryz.func19, Tryz.ntmps19
  go_wp2_with (first | (go_at_call 43; (with_reducible refine (Vld.call hv.out (by repeat' (first | exact Plus.refl _ | refine Plus.alloc ?_ _ | refine Plus.plus ?_ _ | refine Plus.drew ?_ | refine Plus.drewN ?_ _))).mono ?_); rintro e w1 ⟨rfl, ⟨x1, rfl⟩⟩) | (go_at_call 60; (with_reducible refine (clone16_n _ (hs.out.plus (by repeat' (first | exact Plus.refl _ | refine Plus.alloc ?_ _ | refine Plus.plus ?_ _ | refine Plus.drew ?_ | refine Plus.drewN ?_ _))) (by omega)).mono ?_); rintro e w2 ⟨D, k2, rfl, hD, ⟨x2, rfl⟩⟩; have HD := Lib.hid hD; clear hD))
  go_returns
  exact ⟨D, k2, rfl, HD.out, (by repeat' (first | exact Plus.refl _ | refine Plus.alloc ?_ _ | refine Plus.plus ?_ _ | refine Plus.drew ?_ | refine Plus.drewN ?_ _))⟩
set_option maxRecDepth 100000 in
set_option maxHeartbeats 4000000 in
theorem text_obj {k p q : Int} {g : Bool} {A C : Option Addr} {n c m d : Nat} {r : Int} {A2 C2 : Option Addr} {c2 d2 : Nat} {r2 : Int} (w : World) (hv : Hid (Vld w (Value.agg #[.int .i64 k, .int .i64 p, .int .i64 q, .bool g, .slice A n c, .slice C m d, .int .i64 r]) (Value.agg #[.int .i64 6, .int .i64 0, .int .i64 0, .bool false, .slice A2 0 c2, .slice C2 0 d2, .int .i64 r2]))) : Calls Tryz.prog 19 #[Value.agg #[.int .i64 k, .int .i64 p, .int .i64 q, .bool g, .slice A n c, .slice C m d, .int .i64 r]] w (TxtP [] 0 3 w) := by
  go_enter Tryz.func19, Tryz.ntmps19
  go_wp2_with (go_at_call 43; (with_reducible refine (Vld.call hv.out (by repeat' (first | exact Plus.refl _ | refine Plus.alloc ?_ _ | refine Plus.plus ?_ _ | refine Plus.drew ?_ | refine Plus.drewN ?_ _))).mono ?_); rintro e w1 ⟨rfl, ⟨x1, rfl⟩⟩)
  go_returns
  exact ⟨none, 0, rfl, Ar.nil _ _ _ _ (by omega) _, (by repeat' (first | exact Plus.refl _ | refine Plus.alloc ?_ _ | refine Plus.plus ?_ _ | refine Plus.drew ?_ | refine Plus.drewN ?_ _))⟩
/-- A text and a signal. -/
structure T2 where
  t : List Nat
  s : Int
def u8n (l : List UInt8) : List Nat := l.map UInt8.toNat
theorem nats_mk (l : List UInt8) : nats ⟨l.toArray⟩ = u8n l := by simp [nats, u8n]
def txtJ : JV → T2
  | .undef => ⟨u8n [117, 110, 100, 101, 102, 105, 110, 101, 100], 0⟩
  | .null => ⟨u8n [110, 117, 108, 108], 0⟩
  | .bool b => ⟨u8n (if b then [116, 114, 117, 101] else [102, 97, 108, 115, 101]), 0⟩
  | .num p q => ⟨u8n (txtS p q), 0⟩
  | .big z => ⟨u8n (Bg.txt z), 0⟩
  | .text us => ⟨us, 0⟩
  | .obj _ => ⟨[], 3⟩
theorem bigI_lt {g : Bool} {xs : List Nat} (ho : Bg.okL xs) : (Bg.bigI g xs).natAbs < Bg.B ^ 8 := Bg.bigI_abs ho
theorem bdec_len {n : Nat} (h : n < Bg.B ^ 8) : (Bg.dec n).length ≤ 78 := by
  by_cases h0 : n = 0
  · subst h0
    rw [Bg.dec_small (by omega)]
    simp
  · have e : Bg.dec n = Bg.dec0 n := by unfold Bg.dec0; rw [if_neg h0]
    rw [e]
    exact Bg.dec0_len 78 n (Nat.lt_of_lt_of_le h (by rw [Bg.B_eq]; decide))
theorem txt_len {z : Int} (h : z.natAbs < Bg.B ^ 8) : (Bg.txt z).length ≤ 79 := by
  have := bdec_len h
  unfold Bg.txt
  split
  · simp; omega
  · omega
theorem ctext_v {k p q : Int} {g : Bool} {A C : Option Addr} {n c m d : Nat} {r : Int} {v' : Value} {x : JV} {ts : List Nat} {m2 : Nat} {s : Int} (hJ : Hid (txtJ x = ⟨ts, s⟩ ∧ m2 = ts.length)) (w : World) (hL : Lai w) (hn : NV w v' x) (hv : Vld w (Value.agg #[.int .i64 k, .int .i64 p, .int .i64 q, .bool g, .slice A n c, .slice C m d, .int .i64 r]) v') :
    Calls Tryz.prog 19 #[Value.agg #[.int .i64 k, .int .i64 p, .int .i64 q, .bool g, .slice A n c, .slice C m d, .int .i64 r]] w (TxtP ts m2 s w) := by
  obtain ⟨q, rfl⟩ := hJ.out
  cases x with
  | undef =>
    obtain ⟨A2, C2, c2, d2, rfl, h1, h2⟩ := hn
    simp only [txtJ, T2.mk.injEq] at q
    obtain ⟨rfl, rfl⟩ := q
    exact text_undef w (Lib.hid hv) (Lib.hid ⟨by decide, rfl⟩) (by decide)
  | null =>
    obtain ⟨A2, C2, c2, d2, rfl, h1, h2⟩ := hn
    simp only [txtJ, T2.mk.injEq] at q
    obtain ⟨rfl, rfl⟩ := q
    exact text_null w (Lib.hid hv) (Lib.hid ⟨by decide, rfl⟩) (by decide)
  | bool b0 =>
    obtain ⟨A2, C2, c2, d2, rfl, h1, h2⟩ := hn
    simp only [txtJ, T2.mk.injEq] at q
    obtain ⟨rfl, rfl⟩ := q
    cases b0
    · exact text_fal w (Lib.hid hv) (Lib.hid ⟨by decide, rfl⟩) (by decide)
    · exact text_tru w (Lib.hid hv) (Lib.hid ⟨by decide, rfl⟩) (by decide)
  | num p2 q2 =>
    obtain ⟨A2, C2, c2, d2, rfl, h1, h2, h3⟩ := hn
    simp only [txtJ, T2.mk.injEq] at q
    obtain ⟨rfl, rfl⟩ := q
    have e : txtR p2 q2 = txtS p2 q2 := by unfold txtR; rw [vk_of h3, vn_of h3]
    exact text_num (T := ⟨(txtS p2 q2).toArray⟩) w (Lib.hid hv) (Lib.hid (by rw [e])) (Lib.hid hL) (Lib.hid ⟨nats_mk _, rfl⟩) (Nat.le_trans (txt_size h3) (by omega))
  | big z =>
    obtain ⟨g2, A2, C2, xs2, n2, c2, d2, rfl, h1, h2, rfl, h4⟩ := hn
    simp only [txtJ, T2.mk.injEq] at q
    obtain ⟨rfl, rfl⟩ := q
    exact text_big (T := ⟨(Bg.txt (Bg.bigI g2 xs2)).toArray⟩) w (Lib.hid hv) (Lib.hid h4) (Lib.hid rfl) (Lib.hid rfl) (Lib.hid ⟨nats_mk _, rfl⟩) (by have := txt_len (bigI_lt (g := g2) h4.lim.1); show (Bg.txt (Bg.bigI g2 xs2)).toArray.size ≤ _; rw [List.size_toArray]; omega)
  | text us2 =>
    obtain ⟨A2, C2, c2, m2, d2, rfl, h1, h2, h3⟩ := hn
    simp only [txtJ, T2.mk.injEq] at q
    obtain ⟨rfl, rfl⟩ := q
    have hl := h3.len
    subst hl
    exact text_text w (Lib.hid hv) (Lib.hid h3) h2
  | obj r2 =>
    obtain ⟨A2, C2, c2, d2, rfl, h1, h2, h3⟩ := hn
    simp only [txtJ, T2.mk.injEq] at q
    obtain ⟨rfl, rfl⟩ := q
    exact text_obj w (Lib.hid hv)
end Go.Proofs.YtakahpbondaidaaGreatDoor
