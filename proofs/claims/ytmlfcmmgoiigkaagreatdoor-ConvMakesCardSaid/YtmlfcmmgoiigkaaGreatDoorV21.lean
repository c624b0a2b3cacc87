/- Contracts: bigOf, BigInt, Numeric. -/
import Derived.Test.YtmlfcmmgoiigkaaGreatDoorV20
namespace Go.Proofs.YtmlfcmmgoiigkaaGreatDoor
open Go.RowKit

def bgT (T : List UInt8) : G2 :=
  if T = [] then ⟨0, 0⟩
  else if unsT T ≠ [] ∧ Lib.trimS (unsT T) digS = [] then ⟨if Lib.hasPrefix T [45] then -(bgD (unsT T)).z else (bgD (unsT T)).z, (bgD (unsT T)).s⟩
  else if (Lib.containsAny T digS && decide (Lib.trimS T pfxS = [])) = true then ⟨0, 3⟩ else ⟨0, 5⟩
def bgU (us : List Nat) : G2 := if low us then bgT (Lib.trimS (us.map Nat.toUInt8) blankS) else ⟨0, 5⟩
theorem nm_zero {pb : Bool} {us : List Nat} (h : Bg.Nm 0 pb us) : pb = false ∧ us = [] := ⟨h.neg.symm, h.mag.symm.trans Bg.dig_zero⟩
theorem bgD_lt (l : List UInt8) : (bgD l).z.natAbs < Bg.B ^ 8 := by
  have hB : 0 < Bg.B ^ 8 := by rw [Bg.B_eq]; decide
  unfold bgD
  split
  · simpa using hB
  · split
    · exact par_lt _
    · simpa using hB
theorem plS_data {xs : List Nat} (h : low xs = true) : (plS xs).data.toList = xs.map Nat.toUInt8 := by unfold plS; rw [if_pos h]; simp [byts]
theorem bigOf_v {A : Option Addr} {us : List Nat} {n c : Nat} {z s : Int} {pb : Bool} {vs : List Nat} (hz : Hid (bgU us = ⟨z, s⟩)) (hN : Hid (Bg.Nm z pb vs)) (w : World) (h : Ar .u16 65536 w A us n c) (hs : n ≤ 4096) : Calls Tryz.prog 56 #[.slice A n c] w (BgP pb vs s w) := by
  have q := hz.out
  have hN' := hN.out
  unfold bgU at q
  by_cases hl : low us = true
  · rw [hl, if_pos rfl] at q
    have hsz : (plS us).size ≤ 1048576 := by
      have e : (plS us).size = (plS us).data.toList.length := (Array.length_toList).symm
      rw [e, plS_data hl, List.length_map, ← h.len]
      omega
    have hT : Lib.trimS (plS us).data.toList (⟨#[32, 9, 10, 13]⟩ : ByteArray).data.toList = Lib.trimS (us.map Nat.toUInt8) blankS := by rw [plS_data hl]; rfl
    have hsub := (trim_sub (us.map Nat.toUInt8) blankS)
    have hta : asc (Lib.trimS (us.map Nat.toUInt8) blankS) := fun x hx => low_asc hl x (hsub.subset hx)
    have htl : (Lib.trimS (us.map Nat.toUInt8) blankS).length ≤ 4096 := by have := hsub.length_le; rw [List.length_map, ← h.len] at this; omega
    generalize Lib.trimS (us.map Nat.toUInt8) blankS = T at q hT hta htl
    unfold bgT at q
    have hzl : (unsT T).length ≤ 4096 := Nat.le_trans (uns_sub T).length_le htl
    by_cases h0 : T = []
    · rw [if_pos h0] at q
      injection q with q1 q2
      subst q1 q2
      obtain ⟨rfl, rfl⟩ := nm_zero hN'
      rw [h0] at hT
      exact bigof_0 w (Lib.hid h) hs (Lib.hid hl) (Lib.hid hT) hsz
    · rw [if_neg h0] at q
      by_cases h1 : unsT T ≠ [] ∧ Lib.trimS (unsT T) digS = []
      · rw [if_pos h1] at q
        obtain ⟨y, s', hG⟩ : ∃ y s', bgD (unsT T) = ⟨y, s'⟩ := ⟨_, _, rfl⟩
        have hy := bgD_lt (unsT T)
        rw [hG] at q hy
        injection q with q1 q2
        simp only at q1 q2 hy
        subst q2
        by_cases hb : Lib.hasPrefix T [45] = true
        · rw [if_pos hb] at q1
          have hM := Bg.Nm.mk' hy
          exact bigof_m w (Lib.hid h) hs (Lib.hid hl) (Lib.hid hT) hsz (Lib.hid h0) (Lib.hid rfl) (Lib.hid hb) (by omega) (Lib.hid h1.1) (Lib.hid (by simp [h1.2])) (Lib.hid hG) (Lib.hid hM) (Lib.hid hM.val) (Lib.hid ⟨hN', q1⟩)
        · rw [if_neg hb] at q1
          subst q1
          exact bigof_p w (Lib.hid h) hs (Lib.hid hl) (Lib.hid hT) hsz (Lib.hid h0) (Lib.hid rfl) (Lib.hid (by simpa using hb)) (by omega) (Lib.hid h1.1) (Lib.hid (by simp [h1.2])) (Lib.hid hG) hN
      · rw [if_neg h1] at q
        have hz0 : z = 0 := by split at q <;> (injection q with q1 q2; exact q1.symm)
        subst hz0
        obtain ⟨rfl, rfl⟩ := nm_zero hN'
        cases h2 : Lib.containsAny T digS
        · rw [h2] at q
          simp at q
          subst q
          by_cases hze : unsT T = []
          · exact bigof_efc w (Lib.hid h) hs (Lib.hid hl) (Lib.hid hT) hsz (Lib.hid h0) (Lib.hid rfl) (Lib.hid rfl) (by omega) (Lib.hid hze) (by omega) hta (Lib.hid h2) (Lib.hid rfl)
          · exact bigof_nfc w (Lib.hid h) hs (Lib.hid hl) (Lib.hid hT) hsz (Lib.hid h0) (Lib.hid rfl) (Lib.hid rfl) (by omega) (Lib.hid hze) (Lib.hid (by simp; exact fun e => h1 ⟨hze, e⟩)) (by omega) hta (Lib.hid h2) (Lib.hid rfl)
        · by_cases h3 : Lib.trimS T pfxS = []
          · rw [h2, h3] at q
            simp at q
            subst q
            by_cases hze : unsT T = []
            · exact bigof_ett w (Lib.hid h) hs (Lib.hid hl) (Lib.hid hT) hsz (Lib.hid h0) (Lib.hid rfl) (Lib.hid rfl) (by omega) (Lib.hid hze) (by omega) hta (Lib.hid h2) (Lib.hid (by simp [h3]))
            · exact bigof_ntt w (Lib.hid h) hs (Lib.hid hl) (Lib.hid hT) hsz (Lib.hid h0) (Lib.hid rfl) (Lib.hid rfl) (by omega) (Lib.hid hze) (Lib.hid (by simp; exact fun e => h1 ⟨hze, e⟩)) (by omega) hta (Lib.hid h2) (Lib.hid (by simp [h3]))
          · rw [h2] at q
            simp [h3] at q
            subst q
            by_cases hze : unsT T = []
            · exact bigof_etf w (Lib.hid h) hs (Lib.hid hl) (Lib.hid hT) hsz (Lib.hid h0) (Lib.hid rfl) (Lib.hid rfl) (by omega) (Lib.hid hze) (by omega) hta (Lib.hid h2) (Lib.hid (by simp [h3]))
            · exact bigof_ntf w (Lib.hid h) hs (Lib.hid hl) (Lib.hid hT) hsz (Lib.hid h0) (Lib.hid rfl) (Lib.hid rfl) (by omega) (Lib.hid hze) (Lib.hid (by simp; exact fun e => h1 ⟨hze, e⟩)) (by omega) hta (Lib.hid h2) (Lib.hid (by simp [h3]))
  · rw [if_neg hl] at q
    injection q with q1 q2
    subst q1 q2
    obtain ⟨rfl, rfl⟩ := nm_zero hN'
    exact bigof_l w (Lib.hid h) hs (Lib.hid (by simpa using hl))
set_option maxRecDepth 100000 in
set_option maxHeartbeats 4000000 in
theorem bigint_undef {k p q : Int} {g : Bool} {A C : Option Addr} {n c m d : Nat} {r : Int} {A2 C2 : Option Addr} {c2 d2 : Nat} (w : World) (hv : Hid (Vld w (Value.agg #[.int .i64 k, .int .i64 p, .int .i64 q, .bool g, .slice A n c, .slice C m d, .int .i64 r]) (Value.agg #[.int .i64 0, .int .i64 0, .int .i64 0, .bool false, .slice A2 0 c2, .slice C2 0 d2, .int .i64 0]))) : Calls Tryz.prog 18 #[Value.agg #[.int .i64 k, .int .i64 p, .int .i64 q, .bool g, .slice A n c, .slice C m d, .int .i64 r]] w (BgP false [] 1 w) := by
  go_enter Tryz.func18, Tryz.ntmps18
  go_wp2_with (go_at_call 49; (with_reducible refine (Vld.call hv.out (by repeat' (first | exact Plus.refl _ | refine Plus.alloc ?_ _ | refine Plus.plus ?_ _ | refine Plus.drew ?_ | refine Plus.drewN ?_ _))).mono ?_); rintro e w1 ⟨rfl, ⟨x1, rfl⟩⟩)
  go_returns
  exact ⟨none, 0, rfl, Bg.arg_nil, (by repeat' (first | exact Plus.refl _ | refine Plus.alloc ?_ _ | refine Plus.plus ?_ _ | refine Plus.drew ?_ | refine Plus.drewN ?_ _))⟩
set_option maxRecDepth 100000 in
set_option maxHeartbeats 4000000 in
theorem bigint_null {k p q : Int} {g : Bool} {A C : Option Addr} {n c m d : Nat} {r : Int} {A2 C2 : Option Addr} {c2 d2 : Nat} (w : World) (hv : Hid (Vld w (Value.agg #[.int .i64 k, .int .i64 p, .int .i64 q, .bool g, .slice A n c, .slice C m d, .int .i64 r]) (Value.agg #[.int .i64 1, .int .i64 0, .int .i64 0, .bool false, .slice A2 0 c2, .slice C2 0 d2, .int .i64 0]))) : Calls Tryz.prog 18 #[Value.agg #[.int .i64 k, .int .i64 p, .int .i64 q, .bool g, .slice A n c, .slice C m d, .int .i64 r]] w (BgP false [] 1 w) := by
  go_enter Tryz.func18, Tryz.ntmps18
  go_wp2_with (go_at_call 49; (with_reducible refine (Vld.call hv.out (by repeat' (first | exact Plus.refl _ | refine Plus.alloc ?_ _ | refine Plus.plus ?_ _ | refine Plus.drew ?_ | refine Plus.drewN ?_ _))).mono ?_); rintro e w1 ⟨rfl, ⟨x1, rfl⟩⟩)
  go_returns
  exact ⟨none, 0, rfl, Bg.arg_nil, (by repeat' (first | exact Plus.refl _ | refine Plus.alloc ?_ _ | refine Plus.plus ?_ _ | refine Plus.drew ?_ | refine Plus.drewN ?_ _))⟩
set_option maxRecDepth 100000 in
set_option maxHeartbeats 4000000 in
theorem bigint_num {k p q : Int} {g : Bool} {A C : Option Addr} {n c m d : Nat} {r : Int} {p2 q2 : Int} {A2 C2 : Option Addr} {c2 d2 : Nat} (w : World) (hv : Hid (Vld w (Value.agg #[.int .i64 k, .int .i64 p, .int .i64 q, .bool g, .slice A n c, .slice C m d, .int .i64 r]) (Value.agg #[.int .i64 3, .int .i64 p2, .int .i64 q2, .bool false, .slice A2 0 c2, .slice C2 0 d2, .int .i64 0]))) : Calls Tryz.prog 18 #[Value.agg #[.int .i64 k, .int .i64 p, .int .i64 q, .bool g, .slice A n c, .slice C m d, .int .i64 r]] w (BgP false [] 1 w) := by
  go_enter Tryz.func18, Tryz.ntmps18
  go_wp2_with (go_at_call 49; (with_reducible refine (Vld.call hv.out (by repeat' (first | exact Plus.refl _ | refine Plus.alloc ?_ _ | refine Plus.plus ?_ _ | refine Plus.drew ?_ | refine Plus.drewN ?_ _))).mono ?_); rintro e w1 ⟨rfl, ⟨x1, rfl⟩⟩)
  go_returns
  exact ⟨none, 0, rfl, Bg.arg_nil, (by repeat' (first | exact Plus.refl _ | refine Plus.alloc ?_ _ | refine Plus.plus ?_ _ | refine Plus.drew ?_ | refine Plus.drewN ?_ _))⟩
set_option maxRecDepth 100000 in
set_option maxHeartbeats 4000000 in
theorem bigint_obj {k p q : Int} {g : Bool} {A C : Option Addr} {n c m d : Nat} {r : Int} {A2 C2 : Option Addr} {c2 d2 : Nat} {r2 : Int} (w : World) (hv : Hid (Vld w (Value.agg #[.int .i64 k, .int .i64 p, .int .i64 q, .bool g, .slice A n c, .slice C m d, .int .i64 r]) (Value.agg #[.int .i64 6, .int .i64 0, .int .i64 0, .bool false, .slice A2 0 c2, .slice C2 0 d2, .int .i64 r2]))) : Calls Tryz.prog 18 #[Value.agg #[.int .i64 k, .int .i64 p, .int .i64 q, .bool g, .slice A n c, .slice C m d, .int .i64 r]] w (BgP false [] 3 w) := by
  go_enter Tryz.func18, Tryz.ntmps18
  go_wp2_with (go_at_call 49; (with_reducible refine (Vld.call hv.out (by repeat' (first | exact Plus.refl _ | refine Plus.alloc ?_ _ | refine Plus.plus ?_ _ | refine Plus.drew ?_ | refine Plus.drewN ?_ _))).mono ?_); rintro e w1 ⟨rfl, ⟨x1, rfl⟩⟩)
  go_returns
  exact ⟨none, 0, rfl, Bg.arg_nil, (by repeat' (first | exact Plus.refl _ | refine Plus.alloc ?_ _ | refine Plus.plus ?_ _ | refine Plus.drew ?_ | refine Plus.drewN ?_ _))⟩
set_option maxRecDepth 100000 in
set_option maxHeartbeats 4000000 in
theorem bigint_tru {k p q : Int} {g : Bool} {A C : Option Addr} {n c m d : Nat} {r : Int} {A2 C2 : Option Addr} {c2 d2 : Nat} (w : World) (hv : Hid (Vld w (Value.agg #[.int .i64 k, .int .i64 p, .int .i64 q, .bool g, .slice A n c, .slice C m d, .int .i64 r]) (Value.agg #[.int .i64 2, .int .i64 0, .int .i64 0, .bool false, .slice A2 0 c2, .slice C2 0 d2, .int .i64 1]))) {pb : Bool} {us : List Nat} {rr : Int} (hO : Hid (Bg.OfN 1 rr pb us)) : Calls Tryz.prog 18 #[Value.agg #[.int .i64 k, .int .i64 p, .int .i64 q, .bool g, .slice A n c, .slice C m d, .int .i64 r]] w (BgP pb us 0 w) := by
  go_enter Tryz.func18, Tryz.ntmps18
  go_wp2_with (first | (go_at_call 49; (with_reducible refine (Vld.call hv.out (by repeat' (first | exact Plus.refl _ | refine Plus.alloc ?_ _ | refine Plus.plus ?_ _ | refine Plus.drew ?_ | refine Plus.drewN ?_ _))).mono ?_); rintro e w1 ⟨rfl, ⟨x1, rfl⟩⟩) | (go_at_call 55; (with_reducible refine (bof_v hO _).mono ?_); rintro e w2 ⟨A1, c1, rfl, hA, ⟨x2, rfl⟩⟩; have HA := Lib.hid hA; clear hA))
  go_returns
  exact ⟨A1, c1, rfl, arg_off HA.out (by repeat' (first | exact Off.refl _ _ | refine Off.plus ?_ _ | refine Off.alloc ?_ _ | exact Off.allocN (Off.refl _ _) (noB _ _ _ _ _) | exact Off.allocN (Off.refl _ _) (noV _ _ _ _ _ _ _ _ _ _ _ _) | refine Off.allocN ?_ (noB _ _ _ _ _) | refine Off.allocN ?_ (noV _ _ _ _ _ _ _ _ _ _ _ _) | refine Off.drew ?_)), (by repeat' (first | exact Plus.refl _ | refine Plus.alloc ?_ _ | refine Plus.plus ?_ _ | refine Plus.drew ?_ | refine Plus.drewN ?_ _))⟩
set_option maxRecDepth 100000 in
set_option maxHeartbeats 4000000 in
theorem bigint_fal {k p q : Int} {g : Bool} {A C : Option Addr} {n c m d : Nat} {r : Int} {A2 C2 : Option Addr} {c2 d2 : Nat} (w : World) (hv : Hid (Vld w (Value.agg #[.int .i64 k, .int .i64 p, .int .i64 q, .bool g, .slice A n c, .slice C m d, .int .i64 r]) (Value.agg #[.int .i64 2, .int .i64 0, .int .i64 0, .bool false, .slice A2 0 c2, .slice C2 0 d2, .int .i64 0]))) {pb : Bool} {us : List Nat} {rr : Int} (hO : Hid (Bg.OfN 0 rr pb us)) : Calls Tryz.prog 18 #[Value.agg #[.int .i64 k, .int .i64 p, .int .i64 q, .bool g, .slice A n c, .slice C m d, .int .i64 r]] w (BgP pb us 0 w) := by
  go_enter Tryz.func18, Tryz.ntmps18
  go_wp2_with (first | (go_at_call 49; (with_reducible refine (Vld.call hv.out (by repeat' (first | exact Plus.refl _ | refine Plus.alloc ?_ _ | refine Plus.plus ?_ _ | refine Plus.drew ?_ | refine Plus.drewN ?_ _))).mono ?_); rintro e w1 ⟨rfl, ⟨x1, rfl⟩⟩) | (go_at_call 55; (with_reducible refine (bof_v hO _).mono ?_); rintro e w2 ⟨A1, c1, rfl, hA, ⟨x2, rfl⟩⟩; have HA := Lib.hid hA; clear hA))
  go_returns
  exact ⟨A1, c1, rfl, arg_off HA.out (by repeat' (first | exact Off.refl _ _ | refine Off.plus ?_ _ | refine Off.alloc ?_ _ | exact Off.allocN (Off.refl _ _) (noB _ _ _ _ _) | exact Off.allocN (Off.refl _ _) (noV _ _ _ _ _ _ _ _ _ _ _ _) | refine Off.allocN ?_ (noB _ _ _ _ _) | refine Off.allocN ?_ (noV _ _ _ _ _ _ _ _ _ _ _ _) | refine Off.drew ?_)), (by repeat' (first | exact Plus.refl _ | refine Plus.alloc ?_ _ | refine Plus.plus ?_ _ | refine Plus.drew ?_ | refine Plus.drewN ?_ _))⟩
theorem cloned_h {g : Bool} {A : Option Addr} {xs : List Nat} {n c : Nat} (w : World) (h : Bg.Arg w A xs n c) : Calls Tryz.prog 54 #[.agg #[.bool g, .slice A n c]] w fun e w' => ∃ (D : Option Addr) (k : Nat), e = .returned (.agg #[.bool g, .slice D n k]) ∧ Bg.Arg w' D xs n k ∧ Plus w w' := cloned_v w (Lib.hid h)
def BgQ (pb : Bool) (us : List Nat) (n : Nat) (s : Int) (w : World) (e : Ending) (w' : World) : Prop :=
  ∃ (A : Option Addr) (c : Nat), e = .returned (.tuple #[.agg #[.bool pb, .slice A n c], .int .i64 s]) ∧ Bg.Arg w' A us n c ∧ Plus w w'
set_option maxRecDepth 100000 in
set_option maxHeartbeats 4000000 in
theorem bigint_big {k p q : Int} {g : Bool} {A C : Option Addr} {n c m d : Nat} {r : Int} {g2 : Bool} {A2 C2 : Option Addr} {xs2 : List Nat} {n2 c2 d2 : Nat} (w : World) (hv : Hid (Vld w (Value.agg #[.int .i64 k, .int .i64 p, .int .i64 q, .bool g, .slice A n c, .slice C m d, .int .i64 r]) (Value.agg #[.int .i64 4, .int .i64 0, .int .i64 0, .bool g2, .slice A2 n2 c2, .slice C2 0 d2, .int .i64 0]))) (hb : Hid (Bg.Arg w A2 xs2 n2 c2)) : Calls Tryz.prog 18 #[Value.agg #[.int .i64 k, .int .i64 p, .int .i64 q, .bool g, .slice A n c, .slice C m d, .int .i64 r]] w (BgQ g2 xs2 n2 0 w) := by
  go_enter Tryz.func18, Tryz.ntmps18
  go_wp2_with (first | (go_at_call 49; (with_reducible refine (Vld.call hv.out (by repeat' (first | exact Plus.refl _ | refine Plus.alloc ?_ _ | refine Plus.plus ?_ _ | refine Plus.drew ?_ | refine Plus.drewN ?_ _))).mono ?_); rintro e w1 ⟨rfl, ⟨x1, rfl⟩⟩) | (go_at_call 54; (with_reducible refine (cloned_h _ (hb.out.plus (by repeat' (first | exact Plus.refl _ | refine Plus.alloc ?_ _ | refine Plus.plus ?_ _ | refine Plus.drew ?_ | refine Plus.drewN ?_ _)))).mono ?_); rintro e w2 ⟨A1, c1, rfl, hA, ⟨x2, rfl⟩⟩; have HA := Lib.hid hA; clear hA))
  go_returns
  exact ⟨A1, c1, rfl, arg_off HA.out (by repeat' (first | exact Off.refl _ _ | refine Off.plus ?_ _ | refine Off.alloc ?_ _ | exact Off.allocN (Off.refl _ _) (noB _ _ _ _ _) | exact Off.allocN (Off.refl _ _) (noV _ _ _ _ _ _ _ _ _ _ _ _) | refine Off.allocN ?_ (noB _ _ _ _ _) | refine Off.allocN ?_ (noV _ _ _ _ _ _ _ _ _ _ _ _) | refine Off.drew ?_)), (by repeat' (first | exact Plus.refl _ | refine Plus.alloc ?_ _ | refine Plus.plus ?_ _ | refine Plus.drew ?_ | refine Plus.drewN ?_ _))⟩
set_option maxRecDepth 100000 in
set_option maxHeartbeats 4000000 in
theorem bigint_text {k p q : Int} {g : Bool} {A C : Option Addr} {n c m d : Nat} {r : Int} {A2 C2 : Option Addr} {us2 : List Nat} {c2 m2 d2 : Nat} (w : World) (hv : Hid (Vld w (Value.agg #[.int .i64 k, .int .i64 p, .int .i64 q, .bool g, .slice A n c, .slice C m d, .int .i64 r]) (Value.agg #[.int .i64 5, .int .i64 0, .int .i64 0, .bool false, .slice A2 0 c2, .slice C2 m2 d2, .int .i64 0]))) (hs : Hid (Ar .u16 65536 w C2 us2 m2 d2)) {z s : Int} {pb : Bool} {vs : List Nat} (hz : Hid (bgU us2 = ⟨z, s⟩)) (hN : Hid (Bg.Nm z pb vs)) (hm : m2 ≤ 4096) : Calls Tryz.prog 18 #[Value.agg #[.int .i64 k, .int .i64 p, .int .i64 q, .bool g, .slice A n c, .slice C m d, .int .i64 r]] w (BgP pb vs s w) := by
  go_enter Tryz.func18, Tryz.ntmps18
  go_wp2_with (first | (go_at_call 49; (with_reducible refine (Vld.call hv.out (by repeat' (first | exact Plus.refl _ | refine Plus.alloc ?_ _ | refine Plus.plus ?_ _ | refine Plus.drew ?_ | refine Plus.drewN ?_ _))).mono ?_); rintro e w1 ⟨rfl, ⟨x1, rfl⟩⟩) | (go_at_call 56; (with_reducible refine (bigOf_v hz hN _ (hs.out.plus (by repeat' (first | exact Plus.refl _ | refine Plus.alloc ?_ _ | refine Plus.plus ?_ _ | refine Plus.drew ?_ | refine Plus.drewN ?_ _))) hm).mono ?_); rintro e w2 ⟨A1, c1, rfl, hA, ⟨x2, rfl⟩⟩; have HA := Lib.hid hA; clear hA))
  go_returns
  exact ⟨A1, c1, rfl, arg_off HA.out (by repeat' (first | exact Off.refl _ _ | refine Off.plus ?_ _ | refine Off.alloc ?_ _ | exact Off.allocN (Off.refl _ _) (noB _ _ _ _ _) | exact Off.allocN (Off.refl _ _) (noV _ _ _ _ _ _ _ _ _ _ _ _) | refine Off.allocN ?_ (noB _ _ _ _ _) | refine Off.allocN ?_ (noV _ _ _ _ _ _ _ _ _ _ _ _) | refine Off.drew ?_)), (by repeat' (first | exact Plus.refl _ | refine Plus.alloc ?_ _ | refine Plus.plus ?_ _ | refine Plus.drew ?_ | refine Plus.drewN ?_ _))⟩
def bigJ : JV → G2
  | .undef => ⟨0, 1⟩
  | .null => ⟨0, 1⟩
  | .bool b => ⟨bit b, 0⟩
  | .num _ _ => ⟨0, 1⟩
  | .big z => ⟨z, 0⟩
  | .text us => bgU us
  | .obj _ => ⟨0, 3⟩
theorem cbig_v {k p q : Int} {g : Bool} {A C : Option Addr} {n c m d : Nat} {r : Int} {v' : Value} {x : JV} {z s : Int} {pb : Bool} {vs : List Nat} (hJ : Hid (bigJ x = ⟨z, s⟩)) (hN : Hid (Bg.Nm z pb vs)) (w : World) (hn : NV w v' x) (hv : Vld w (Value.agg #[.int .i64 k, .int .i64 p, .int .i64 q, .bool g, .slice A n c, .slice C m d, .int .i64 r]) v') :
    Calls Tryz.prog 18 #[Value.agg #[.int .i64 k, .int .i64 p, .int .i64 q, .bool g, .slice A n c, .slice C m d, .int .i64 r]] w (BgP pb vs s w) := by
  have q := hJ.out
  have hN' := hN.out
  cases x with
  | undef =>
    obtain ⟨A2, C2, c2, d2, rfl, h1, h2⟩ := hn
    simp only [bigJ, G2.mk.injEq] at q
    obtain ⟨rfl, rfl⟩ := q
    obtain ⟨rfl, rfl⟩ := nm_zero hN'
    exact bigint_undef w (Lib.hid hv)
  | null =>
    obtain ⟨A2, C2, c2, d2, rfl, h1, h2⟩ := hn
    simp only [bigJ, G2.mk.injEq] at q
    obtain ⟨rfl, rfl⟩ := q
    obtain ⟨rfl, rfl⟩ := nm_zero hN'
    exact bigint_null w (Lib.hid hv)
  | num p2 q2 =>
    obtain ⟨A2, C2, c2, d2, rfl, h1, h2, h3⟩ := hn
    simp only [bigJ, G2.mk.injEq] at q
    obtain ⟨rfl, rfl⟩ := q
    obtain ⟨rfl, rfl⟩ := nm_zero hN'
    exact bigint_num w (Lib.hid hv)
  | obj r2 =>
    obtain ⟨A2, C2, c2, d2, rfl, h1, h2, h3⟩ := hn
    simp only [bigJ, G2.mk.injEq] at q
    obtain ⟨rfl, rfl⟩ := q
    obtain ⟨rfl, rfl⟩ := nm_zero hN'
    exact bigint_obj w (Lib.hid hv)
  | bool b0 =>
    obtain ⟨A2, C2, c2, d2, rfl, h1, h2⟩ := hn
    simp only [bigJ, G2.mk.injEq] at q
    obtain ⟨rfl, rfl⟩ := q
    cases b0
    · exact bigint_fal w (Lib.hid hv) (Lib.hid ⟨hN', rfl, by decide, by decide⟩)
    · exact bigint_tru w (Lib.hid hv) (Lib.hid ⟨hN', rfl, by decide, by decide⟩)
  | big z =>
    obtain ⟨g2, A2, C2, xs2, n2, c2, d2, rfl, h1, h2, rfl, h4⟩ := hn
    simp only [bigJ, G2.mk.injEq] at q
    obtain ⟨rfl, rfl⟩ := q
    obtain ⟨e1, e2, _⟩ := Bg.may_yes h4.lim.1 h2
    have e3 : xs2 = vs := e1.trans hN'.mag
    have e4 : g2 = pb := e2.trans hN'.neg
    have e5 := h4.len
    subst e3 e4 e5
    exact bigint_big w (Lib.hid hv) (Lib.hid h4)
  | text us2 =>
    obtain ⟨A2, C2, c2, m2, d2, rfl, h1, h2, h3⟩ := hn
    exact bigint_text w (Lib.hid hv) (Lib.hid h3) (Lib.hid q) hN (by rw [h3.len]; exact h2)
end Go.Proofs.YtmlfcmmgoiigkaaGreatDoor
