/- Values: what lies in memory; slices.Equal of limbs. Contract: heap.Same. -/
import Derived.IntWalk
import Derived.Test.YtgljfgkkolfnbaaGreatDoorBB
import Derived.Test.YtgljfgkkolfnbaaGreatDoorN9z
import Derived.Test.YtgljfgkkolfnbaaGreatDoorGZ
import Derived.Test.YtgljfgkkolfnbaaGreatDoorBE
namespace Go.Proofs.YtgljfgkkolfnbaaGreatDoor
open Go.RowKit

set_option maxRecDepth 100000 in
set_option maxHeartbeats 1000000 in
theorem equal32_c (A C : Option Addr) (xs ys : List Nat) (n c m d : Nat) (w : World) (ha : Ar .u32 4294967296 w A xs n c) (hb : Ar .u32 4294967296 w C ys m d) :
    Calls Tryz.prog 62 #[.slice A n c, .slice C m d] w fun e w' => e = .returned (.bool (decide (xs = ys))) ∧ Plus w w' := by
  obtain ⟨hrd, hlen, hcap, hmax, hbd⟩ := ha
  obtain ⟨krd, klen, kcap, kmax, kbd⟩ := hb
  subst hlen klen
  by_cases hl : xs.length = ys.length
  · have b1 : ((xs.length : Int) != (ys.length : Int)) = false := by simp [hl]
    have HL := Lib.hid hl
    clear hl
    go_enter Tryz.func62, Tryz.ntmps62
    go_wp2
    go_loopw [13] (fun s13 wr => EqRel xs ys s13 ∧ Plus w wr) (fun s13 _ => ((xs.length : Int) - intOf s13).toNat)
    case atStart => exact ⟨⟨0, by omega, rfl, rfl⟩, Plus.refl _⟩
    case round =>
      obtain ⟨⟨k, hk, rfl, he⟩, hp⟩ := hrel
      by_cases hlt : k < xs.length
      · obtain ⟨g, o, rfl, hg, hat⟩ := hrd.at_ hlt
        have hlt2 : k < ys.length := by rw [← HL.out]; exact hlt
        obtain ⟨g2, o2, rfl, hg2, hat2⟩ := krd.at_ hlt2
        have hcell := hat.plus hg hp k hlt
        have hcell2 := hat2.plus hg2 hp k hlt2
        have hadd := add_addr g o k
        have hadd2 := add_addr g2 o2 k
        have HE := Lib.hid he
        have HP := Lib.hid hp
        clear he hat hat2 hp
        obtain ⟨v, hv⟩ : ∃ v, xs.getD k 0 = v := ⟨_, rfl⟩
        obtain ⟨u, hu⟩ : ∃ u, ys.getD k 0 = u := ⟨_, rfl⟩
        rw [hv] at hcell
        rw [hu] at hcell2
        have HV := Lib.hid hv
        have HU := Lib.hid hu
        clear hv hu
        by_cases hvu : v = u
        · subst hvu
          have HT := Lib.hid (take_ext HE.out hlt hlt2 (by rw [HV.out, HU.out]))
          go_wp2_with fail
          go_quiet (fail)
          go_wp2_with fail
          go_roundw
          case rel => exact ⟨⟨k + 1, hlt, by rw [show ((k + 1 : Nat) : Int) = (k : Int) + 1 by omega], HT.out⟩, HP.out.drewN _⟩
          case measure => simp [intOf]; omega
        · have b2 : ((v : Int) != (u : Int)) = true := by simp; omega
          have HN : Hid (decide (xs = ys) = false) := Lib.hid (by simp; intro e; subst e; exact hvu (HV.out.symm.trans HU.out))
          go_wp2_with fail
          go_quiet (fail)
          go_wp2_with fail
          go_ret
          exact ⟨by rw [HN.out]; rfl, HP.out.drewN _⟩
      · obtain rfl : k = xs.length := by omega
        have HR : Hid (decide (xs = ys) = true) := Lib.hid (by
          rw [List.take_length, HL.out, List.take_length] at he
          simpa using he)
        have HP := Lib.hid hp
        clear he hp
        go_wp2_with fail
        go_ret
        exact ⟨by rw [HR.out]; rfl, HP.out⟩
  · have b1 : ((xs.length : Int) != (ys.length : Int)) = true := by simp; omega
    have HN : Hid (decide (xs = ys) = false) := Lib.hid (by simp; intro e; subst e; exact hl rfl)
    go_enter Tryz.func62, Tryz.ntmps62
    go_wp2
    go_ret
    exact ⟨by rw [HN.out]; rfl, Plus.refl _⟩

theorem equal32_v {A C : Option Addr} {xs ys : List Nat} {n c m d : Nat} {b : Bool} (h : Hid (decide (xs = ys) = b)) (w : World) (ha : Ar .u32 4294967296 w A xs n c) (hb : Ar .u32 4294967296 w C ys m d) :
    Calls Tryz.prog 62 #[.slice A n c, .slice C m d] w fun e w' => e = .returned (.bool b) ∧ Plus w w' := by
  rw [← h.out]
  exact equal32_c A C xs ys n c m d w ha hb
theorem tsame_v {A C : Option Addr} {xs ys : List Nat} {n c m d : Nat} {b : Bool} (h : Hid (decide (xs = ys) = b)) (w : World) (ha : Ar .u16 65536 w A xs n c) (hb : Ar .u16 65536 w C ys m d) :
    Calls Tryz.prog 63 #[.slice A n c, .slice C m d] w fun e w' => e = .returned (.bool b) ∧ Plus w w' := by
  rw [← h.out]
  exact same_c A C xs ys n c m d w ha hb
/-- Limbs, as big's contracts have them. -/
theorem lim_rd {w : World} {A : Option Addr} {xs : List Nat} (h : Rd .u32 w A xs) (ho : Bg.okL xs) : Bg.Lim w A xs := ⟨ho, fun h0 => by
  obtain ⟨g, o, rfl, hg, hc⟩ := h h0
  refine ⟨_, rfl, hg, fun j hj => ?_⟩
  rw [add_addr]
  exact hc j hj⟩
theorem rd_lim {w : World} {A : Option Addr} {xs : List Nat} (h : Bg.Lim w A xs) : Rd .u32 w A xs := fun h0 => by
  obtain ⟨ad, rfl, hg, hc⟩ := h.2 h0
  have hs := World.cell?_spot (hc 0 h0)
  have e0 : ad.add 0 = ad := by unfold Addr.add; rw [if_pos rfl]
  rw [e0] at hs
  obtain ⟨b, o, sp⟩ := ad
  simp only at hs
  subst hs
  refine ⟨b, o, rfl, hg, fun j hj => ?_⟩
  rw [← add_addr]
  exact hc j hj
theorem okL_bd {xs : List Nat} (h : ∀ x ∈ xs, x < 4294967296) : Bg.okL xs := h
theorem arg_ar {w : World} {A : Option Addr} {xs : List Nat} {n c : Nat} (h : Ar .u32 4294967296 w A xs n c) (hf : n ≤ 1048576) : Bg.Arg w A xs n c :=
  ⟨lim_rd h.rd h.bd, h.len, by rw [← h.len]; exact hf, by rw [← h.len]; exact h.cap, h.max⟩
theorem ar_arg {w : World} {A : Option Addr} {xs : List Nat} {n c : Nat} (h : Bg.Arg w A xs n c) : Ar .u32 4294967296 w A xs n c :=
  ⟨rd_lim h.lim, h.len, by rw [h.len]; exact h.cap, h.max, h.lim.1⟩
/-- A value's slices in memory. -/
structure VM (w : World) (A : Option Addr) (xs : List Nat) (n c : Nat) (C : Option Addr) (us : List Nat) (m d : Nat) : Prop where
  b : Ar .u32 4294967296 w A xs n c
  s : Ar .u16 65536 w C us m d
theorem VM.plus {w w' : World} {A C : Option Addr} {xs us : List Nat} {n c m d : Nat} (h : VM w A xs n c C us m d) (hp : Plus w w') : VM w' A xs n c C us m d := ⟨h.b.plus hp, h.s.plus hp⟩
theorem Ar.nil (k : IntKind) (K : Nat) (w : World) (c : Nat) (hc : c ≤ 9223372036854775807) (A : Option Addr) : Ar k K w A [] 0 c := ⟨Rd.nil, rfl, Nat.zero_le _, hc, fun _ h => absurd h (by simp)⟩
theorem VM.nil (w : World) : VM w none [] 0 0 none [] 0 0 := ⟨Ar.nil _ _ _ _ (by omega) _, Ar.nil _ _ _ _ (by omega) _⟩
end Go.Proofs.YtgljfgkkolfnbaaGreatDoor

namespace Go.Proofs.YtgljfgkkolfnbaaGreatDoor
open Go.RowKit

theorem xor_of {a b : Bool} (h : a ≠ b) : b = !a := by cases a <;> cases b <;> simp_all
set_option maxRecDepth 100000 in
set_option maxHeartbeats 4000000 in
theorem hs_k {k p q : Int} {g : Bool} {A C : Option Addr} {n c m d : Nat} {r : Int} {k2 p2 q2 : Int} {g2 : Bool} {A2 C2 : Option Addr} {n2 c2 m2 d2 : Nat} {r2 : Int} (w : World) (b : (k == k2) = false) : Calls Tryz.prog 20 #[Value.agg #[.int .i64 k, .int .i64 p, .int .i64 q, .bool g, .slice A n c, .slice C m d, .int .i64 r], Value.agg #[.int .i64 k2, .int .i64 p2, .int .i64 q2, .bool g2, .slice A2 n2 c2, .slice C2 m2 d2, .int .i64 r2]] w fun e w' => e = .returned (.bool false) ∧ Plus w w' := by
  go_enter Tryz.func20, Tryz.ntmps20
  go_wp2_with fail
  go_returns
  exact ⟨rfl, (by repeat' (first | exact Plus.refl _ | refine Plus.alloc ?_ _ | refine Plus.plus ?_ _ | refine Plus.drew ?_ | refine Plus.drewN ?_ _))⟩
set_option maxRecDepth 100000 in
set_option maxHeartbeats 4000000 in
theorem hs_p {k p q : Int} {g : Bool} {A C : Option Addr} {n c m d : Nat} {r : Int} {p2 q2 : Int} {g2 : Bool} {A2 C2 : Option Addr} {n2 c2 m2 d2 : Nat} {r2 : Int} (w : World) (b : (p == p2) = false) : Calls Tryz.prog 20 #[Value.agg #[.int .i64 k, .int .i64 p, .int .i64 q, .bool g, .slice A n c, .slice C m d, .int .i64 r], Value.agg #[.int .i64 k, .int .i64 p2, .int .i64 q2, .bool g2, .slice A2 n2 c2, .slice C2 m2 d2, .int .i64 r2]] w fun e w' => e = .returned (.bool false) ∧ Plus w w' := by
  go_enter Tryz.func20, Tryz.ntmps20
  go_wp2_with fail
  go_returns
  exact ⟨rfl, (by repeat' (first | exact Plus.refl _ | refine Plus.alloc ?_ _ | refine Plus.plus ?_ _ | refine Plus.drew ?_ | refine Plus.drewN ?_ _))⟩
set_option maxRecDepth 100000 in
set_option maxHeartbeats 4000000 in
theorem hs_q {k p q : Int} {g : Bool} {A C : Option Addr} {n c m d : Nat} {r : Int} {q2 : Int} {g2 : Bool} {A2 C2 : Option Addr} {n2 c2 m2 d2 : Nat} {r2 : Int} (w : World) (b : (q == q2) = false) : Calls Tryz.prog 20 #[Value.agg #[.int .i64 k, .int .i64 p, .int .i64 q, .bool g, .slice A n c, .slice C m d, .int .i64 r], Value.agg #[.int .i64 k, .int .i64 p, .int .i64 q2, .bool g2, .slice A2 n2 c2, .slice C2 m2 d2, .int .i64 r2]] w fun e w' => e = .returned (.bool false) ∧ Plus w w' := by
  go_enter Tryz.func20, Tryz.ntmps20
  go_wp2_with fail
  go_returns
  exact ⟨rfl, (by repeat' (first | exact Plus.refl _ | refine Plus.alloc ?_ _ | refine Plus.plus ?_ _ | refine Plus.drew ?_ | refine Plus.drewN ?_ _))⟩
set_option maxRecDepth 100000 in
set_option maxHeartbeats 4000000 in
theorem hs_g {k p q : Int} {g : Bool} {A C : Option Addr} {n c m d : Nat} {r : Int} {A2 C2 : Option Addr} {n2 c2 m2 d2 : Nat} {r2 : Int} (w : World) : Calls Tryz.prog 20 #[Value.agg #[.int .i64 k, .int .i64 p, .int .i64 q, .bool g, .slice A n c, .slice C m d, .int .i64 r], Value.agg #[.int .i64 k, .int .i64 p, .int .i64 q, .bool (!g), .slice A2 n2 c2, .slice C2 m2 d2, .int .i64 r2]] w fun e w' => e = .returned (.bool false) ∧ Plus w w' := by
  cases g
  · go_enter Tryz.func20, Tryz.ntmps20
    go_wp2_with fail
    go_returns
    exact ⟨rfl, (by repeat' (first | exact Plus.refl _ | refine Plus.alloc ?_ _ | refine Plus.plus ?_ _ | refine Plus.drew ?_ | refine Plus.drewN ?_ _))⟩
  · go_enter Tryz.func20, Tryz.ntmps20
    go_wp2_with fail
    go_returns
    exact ⟨rfl, (by repeat' (first | exact Plus.refl _ | refine Plus.alloc ?_ _ | refine Plus.plus ?_ _ | refine Plus.drew ?_ | refine Plus.drewN ?_ _))⟩
set_option maxRecDepth 100000 in
set_option maxHeartbeats 4000000 in
theorem hs_x {k p q : Int} {g : Bool} {A C : Option Addr} {xs us : List Nat} {n c m d : Nat} {r : Int} {A2 C2 : Option Addr} {xs2 us2 : List Nat} {n2 c2 m2 d2 : Nat} {r2 : Int} (w : World) (H1 : Hid (VM w A xs n c C us m d)) (H2 : Hid (VM w A2 xs2 n2 c2 C2 us2 m2 d2)) (hx : Hid (decide (xs = xs2) = false)) : Calls Tryz.prog 20 #[Value.agg #[.int .i64 k, .int .i64 p, .int .i64 q, .bool g, .slice A n c, .slice C m d, .int .i64 r], Value.agg #[.int .i64 k, .int .i64 p, .int .i64 q, .bool g, .slice A2 n2 c2, .slice C2 m2 d2, .int .i64 r2]] w fun e w' => e = .returned (.bool false) ∧ Plus w w' := by
  cases g
  · go_enter Tryz.func20, Tryz.ntmps20
    go_wp2_with (go_at_call 62; (with_reducible refine (equal32_v hx _ (H1.out.b.plus (by repeat' (first | exact Plus.refl _ | refine Plus.alloc ?_ _ | refine Plus.plus ?_ _ | refine Plus.drew ?_ | refine Plus.drewN ?_ _))) (H2.out.b.plus (by repeat' (first | exact Plus.refl _ | refine Plus.alloc ?_ _ | refine Plus.plus ?_ _ | refine Plus.drew ?_ | refine Plus.drewN ?_ _)))).mono ?_); rintro e w1 ⟨rfl, ⟨x1, rfl⟩⟩)
    go_returns
    exact ⟨rfl, (by repeat' (first | exact Plus.refl _ | refine Plus.alloc ?_ _ | refine Plus.plus ?_ _ | refine Plus.drew ?_ | refine Plus.drewN ?_ _))⟩
  · go_enter Tryz.func20, Tryz.ntmps20
    go_wp2_with (go_at_call 62; (with_reducible refine (equal32_v hx _ (H1.out.b.plus (by repeat' (first | exact Plus.refl _ | refine Plus.alloc ?_ _ | refine Plus.plus ?_ _ | refine Plus.drew ?_ | refine Plus.drewN ?_ _))) (H2.out.b.plus (by repeat' (first | exact Plus.refl _ | refine Plus.alloc ?_ _ | refine Plus.plus ?_ _ | refine Plus.drew ?_ | refine Plus.drewN ?_ _)))).mono ?_); rintro e w1 ⟨rfl, ⟨x1, rfl⟩⟩)
    go_returns
    exact ⟨rfl, (by repeat' (first | exact Plus.refl _ | refine Plus.alloc ?_ _ | refine Plus.plus ?_ _ | refine Plus.drew ?_ | refine Plus.drewN ?_ _))⟩
set_option maxRecDepth 100000 in
set_option maxHeartbeats 4000000 in
theorem hs_u {k p q : Int} {g : Bool} {A C : Option Addr} {xs us : List Nat} {n c m d : Nat} {r : Int} {A2 C2 : Option Addr} {xs2 us2 : List Nat} {n2 c2 m2 d2 : Nat} {r2 : Int} (w : World) (H1 : Hid (VM w A xs n c C us m d)) (H2 : Hid (VM w A2 xs2 n2 c2 C2 us2 m2 d2)) (hx : Hid (decide (xs = xs2) = true)) (hu : Hid (decide (us = us2) = false)) : Calls Tryz.prog 20 #[Value.agg #[.int .i64 k, .int .i64 p, .int .i64 q, .bool g, .slice A n c, .slice C m d, .int .i64 r], Value.agg #[.int .i64 k, .int .i64 p, .int .i64 q, .bool g, .slice A2 n2 c2, .slice C2 m2 d2, .int .i64 r2]] w fun e w' => e = .returned (.bool false) ∧ Plus w w' := by
  cases g
  · go_enter Tryz.func20, Tryz.ntmps20
    go_wp2_with (first | (go_at_call 62; (with_reducible refine (equal32_v hx _ (H1.out.b.plus (by repeat' (first | exact Plus.refl _ | refine Plus.alloc ?_ _ | refine Plus.plus ?_ _ | refine Plus.drew ?_ | refine Plus.drewN ?_ _))) (H2.out.b.plus (by repeat' (first | exact Plus.refl _ | refine Plus.alloc ?_ _ | refine Plus.plus ?_ _ | refine Plus.drew ?_ | refine Plus.drewN ?_ _)))).mono ?_); rintro e w1 ⟨rfl, ⟨x1, rfl⟩⟩) | (go_at_call 63; (with_reducible refine (tsame_v hu _ (H1.out.s.plus (by repeat' (first | exact Plus.refl _ | refine Plus.alloc ?_ _ | refine Plus.plus ?_ _ | refine Plus.drew ?_ | refine Plus.drewN ?_ _))) (H2.out.s.plus (by repeat' (first | exact Plus.refl _ | refine Plus.alloc ?_ _ | refine Plus.plus ?_ _ | refine Plus.drew ?_ | refine Plus.drewN ?_ _)))).mono ?_); rintro e w1 ⟨rfl, ⟨x2, rfl⟩⟩))
    go_returns
    exact ⟨rfl, (by repeat' (first | exact Plus.refl _ | refine Plus.alloc ?_ _ | refine Plus.plus ?_ _ | refine Plus.drew ?_ | refine Plus.drewN ?_ _))⟩
  · go_enter Tryz.func20, Tryz.ntmps20
    go_wp2_with (first | (go_at_call 62; (with_reducible refine (equal32_v hx _ (H1.out.b.plus (by repeat' (first | exact Plus.refl _ | refine Plus.alloc ?_ _ | refine Plus.plus ?_ _ | refine Plus.drew ?_ | refine Plus.drewN ?_ _))) (H2.out.b.plus (by repeat' (first | exact Plus.refl _ | refine Plus.alloc ?_ _ | refine Plus.plus ?_ _ | refine Plus.drew ?_ | refine Plus.drewN ?_ _)))).mono ?_); rintro e w1 ⟨rfl, ⟨x1, rfl⟩⟩) | (go_at_call 63; (with_reducible refine (tsame_v hu _ (H1.out.s.plus (by repeat' (first | exact Plus.refl _ | refine Plus.alloc ?_ _ | refine Plus.plus ?_ _ | refine Plus.drew ?_ | refine Plus.drewN ?_ _))) (H2.out.s.plus (by repeat' (first | exact Plus.refl _ | refine Plus.alloc ?_ _ | refine Plus.plus ?_ _ | refine Plus.drew ?_ | refine Plus.drewN ?_ _)))).mono ?_); rintro e w1 ⟨rfl, ⟨x2, rfl⟩⟩))
    go_returns
    exact ⟨rfl, (by repeat' (first | exact Plus.refl _ | refine Plus.alloc ?_ _ | refine Plus.plus ?_ _ | refine Plus.drew ?_ | refine Plus.drewN ?_ _))⟩
set_option maxRecDepth 100000 in
set_option maxHeartbeats 4000000 in
theorem hs_r {k p q : Int} {g : Bool} {A C : Option Addr} {xs us : List Nat} {n c m d : Nat} {r : Int} {A2 C2 : Option Addr} {xs2 us2 : List Nat} {n2 c2 m2 d2 : Nat} {r2 : Int} (w : World) (H1 : Hid (VM w A xs n c C us m d)) (H2 : Hid (VM w A2 xs2 n2 c2 C2 us2 m2 d2)) (hx : Hid (decide (xs = xs2) = true)) (hu : Hid (decide (us = us2) = true)) (b : (r == r2) = false) : Calls Tryz.prog 20 #[Value.agg #[.int .i64 k, .int .i64 p, .int .i64 q, .bool g, .slice A n c, .slice C m d, .int .i64 r], Value.agg #[.int .i64 k, .int .i64 p, .int .i64 q, .bool g, .slice A2 n2 c2, .slice C2 m2 d2, .int .i64 r2]] w fun e w' => e = .returned (.bool false) ∧ Plus w w' := by
  cases g
  · go_enter Tryz.func20, Tryz.ntmps20
    go_wp2_with (first | (go_at_call 62; (with_reducible refine (equal32_v hx _ (H1.out.b.plus (by repeat' (first | exact Plus.refl _ | refine Plus.alloc ?_ _ | refine Plus.plus ?_ _ | refine Plus.drew ?_ | refine Plus.drewN ?_ _))) (H2.out.b.plus (by repeat' (first | exact Plus.refl _ | refine Plus.alloc ?_ _ | refine Plus.plus ?_ _ | refine Plus.drew ?_ | refine Plus.drewN ?_ _)))).mono ?_); rintro e w1 ⟨rfl, ⟨x1, rfl⟩⟩) | (go_at_call 63; (with_reducible refine (tsame_v hu _ (H1.out.s.plus (by repeat' (first | exact Plus.refl _ | refine Plus.alloc ?_ _ | refine Plus.plus ?_ _ | refine Plus.drew ?_ | refine Plus.drewN ?_ _))) (H2.out.s.plus (by repeat' (first | exact Plus.refl _ | refine Plus.alloc ?_ _ | refine Plus.plus ?_ _ | refine Plus.drew ?_ | refine Plus.drewN ?_ _)))).mono ?_); rintro e w1 ⟨rfl, ⟨x2, rfl⟩⟩))
    go_returns
    exact ⟨rfl, (by repeat' (first | exact Plus.refl _ | refine Plus.alloc ?_ _ | refine Plus.plus ?_ _ | refine Plus.drew ?_ | refine Plus.drewN ?_ _))⟩
  · go_enter Tryz.func20, Tryz.ntmps20
    go_wp2_with (first | (go_at_call 62; (with_reducible refine (equal32_v hx _ (H1.out.b.plus (by repeat' (first | exact Plus.refl _ | refine Plus.alloc ?_ _ | refine Plus.plus ?_ _ | refine Plus.drew ?_ | refine Plus.drewN ?_ _))) (H2.out.b.plus (by repeat' (first | exact Plus.refl _ | refine Plus.alloc ?_ _ | refine Plus.plus ?_ _ | refine Plus.drew ?_ | refine Plus.drewN ?_ _)))).mono ?_); rintro e w1 ⟨rfl, ⟨x1, rfl⟩⟩) | (go_at_call 63; (with_reducible refine (tsame_v hu _ (H1.out.s.plus (by repeat' (first | exact Plus.refl _ | refine Plus.alloc ?_ _ | refine Plus.plus ?_ _ | refine Plus.drew ?_ | refine Plus.drewN ?_ _))) (H2.out.s.plus (by repeat' (first | exact Plus.refl _ | refine Plus.alloc ?_ _ | refine Plus.plus ?_ _ | refine Plus.drew ?_ | refine Plus.drewN ?_ _)))).mono ?_); rintro e w1 ⟨rfl, ⟨x2, rfl⟩⟩))
    go_returns
    exact ⟨rfl, (by repeat' (first | exact Plus.refl _ | refine Plus.alloc ?_ _ | refine Plus.plus ?_ _ | refine Plus.drew ?_ | refine Plus.drewN ?_ _))⟩
set_option maxRecDepth 100000 in
set_option maxHeartbeats 4000000 in
theorem hs_e {k p q : Int} {g : Bool} {A C : Option Addr} {xs us : List Nat} {n c m d : Nat} {r : Int} {A2 C2 : Option Addr} {xs2 us2 : List Nat} {n2 c2 m2 d2 : Nat} (w : World) (H1 : Hid (VM w A xs n c C us m d)) (H2 : Hid (VM w A2 xs2 n2 c2 C2 us2 m2 d2)) (hx : Hid (decide (xs = xs2) = true)) (hu : Hid (decide (us = us2) = true)) : Calls Tryz.prog 20 #[Value.agg #[.int .i64 k, .int .i64 p, .int .i64 q, .bool g, .slice A n c, .slice C m d, .int .i64 r], Value.agg #[.int .i64 k, .int .i64 p, .int .i64 q, .bool g, .slice A2 n2 c2, .slice C2 m2 d2, .int .i64 r]] w fun e w' => e = .returned (.bool true) ∧ Plus w w' := by
  cases g
  · go_enter Tryz.func20, Tryz.ntmps20
    go_wp2_with (first | (go_at_call 62; (with_reducible refine (equal32_v hx _ (H1.out.b.plus (by repeat' (first | exact Plus.refl _ | refine Plus.alloc ?_ _ | refine Plus.plus ?_ _ | refine Plus.drew ?_ | refine Plus.drewN ?_ _))) (H2.out.b.plus (by repeat' (first | exact Plus.refl _ | refine Plus.alloc ?_ _ | refine Plus.plus ?_ _ | refine Plus.drew ?_ | refine Plus.drewN ?_ _)))).mono ?_); rintro e w1 ⟨rfl, ⟨x1, rfl⟩⟩) | (go_at_call 63; (with_reducible refine (tsame_v hu _ (H1.out.s.plus (by repeat' (first | exact Plus.refl _ | refine Plus.alloc ?_ _ | refine Plus.plus ?_ _ | refine Plus.drew ?_ | refine Plus.drewN ?_ _))) (H2.out.s.plus (by repeat' (first | exact Plus.refl _ | refine Plus.alloc ?_ _ | refine Plus.plus ?_ _ | refine Plus.drew ?_ | refine Plus.drewN ?_ _)))).mono ?_); rintro e w1 ⟨rfl, ⟨x2, rfl⟩⟩))
    go_returns
    exact ⟨rfl, (by repeat' (first | exact Plus.refl _ | refine Plus.alloc ?_ _ | refine Plus.plus ?_ _ | refine Plus.drew ?_ | refine Plus.drewN ?_ _))⟩
  · go_enter Tryz.func20, Tryz.ntmps20
    go_wp2_with (first | (go_at_call 62; (with_reducible refine (equal32_v hx _ (H1.out.b.plus (by repeat' (first | exact Plus.refl _ | refine Plus.alloc ?_ _ | refine Plus.plus ?_ _ | refine Plus.drew ?_ | refine Plus.drewN ?_ _))) (H2.out.b.plus (by repeat' (first | exact Plus.refl _ | refine Plus.alloc ?_ _ | refine Plus.plus ?_ _ | refine Plus.drew ?_ | refine Plus.drewN ?_ _)))).mono ?_); rintro e w1 ⟨rfl, ⟨x1, rfl⟩⟩) | (go_at_call 63; (with_reducible refine (tsame_v hu _ (H1.out.s.plus (by repeat' (first | exact Plus.refl _ | refine Plus.alloc ?_ _ | refine Plus.plus ?_ _ | refine Plus.drew ?_ | refine Plus.drewN ?_ _))) (H2.out.s.plus (by repeat' (first | exact Plus.refl _ | refine Plus.alloc ?_ _ | refine Plus.plus ?_ _ | refine Plus.drew ?_ | refine Plus.drewN ?_ _)))).mono ?_); rintro e w1 ⟨rfl, ⟨x2, rfl⟩⟩))
    go_returns
    exact ⟨rfl, (by repeat' (first | exact Plus.refl _ | refine Plus.alloc ?_ _ | refine Plus.plus ?_ _ | refine Plus.drew ?_ | refine Plus.drewN ?_ _))⟩
def sameV (k p q : Int) (g : Bool) (xs us : List Nat) (r : Int) (k2 p2 q2 : Int) (g2 : Bool) (xs2 us2 : List Nat) (r2 : Int) : Bool := decide (k = k2 ∧ p = p2 ∧ q = q2 ∧ g = g2 ∧ xs = xs2 ∧ us = us2 ∧ r = r2)
theorem hsame_c (k p q : Int) (g : Bool) (A C : Option Addr) (xs us : List Nat) (n c m d : Nat) (r : Int) (k2 p2 q2 : Int) (g2 : Bool) (A2 C2 : Option Addr) (xs2 us2 : List Nat) (n2 c2 m2 d2 : Nat) (r2 : Int) (w : World) (h1 : VM w A xs n c C us m d) (h2 : VM w A2 xs2 n2 c2 C2 us2 m2 d2) : Calls Tryz.prog 20 #[Value.agg #[.int .i64 k, .int .i64 p, .int .i64 q, .bool g, .slice A n c, .slice C m d, .int .i64 r], Value.agg #[.int .i64 k2, .int .i64 p2, .int .i64 q2, .bool g2, .slice A2 n2 c2, .slice C2 m2 d2, .int .i64 r2]] w fun e w' => e = .returned (.bool (sameV k p q g xs us r k2 p2 q2 g2 xs2 us2 r2)) ∧ Plus w w' := by
  by_cases e1 : k = k2
  · subst e1
    by_cases e2 : p = p2
    · subst e2
      by_cases e3 : q = q2
      · subst e3
        by_cases e4 : g = g2
        · subst e4
          by_cases e5 : xs = xs2
          · by_cases e6 : us = us2
            · by_cases e7 : r = r2
              · subst e7
                rw [show sameV k p q g xs us r k p q g xs2 us2 r = true by simp [sameV, e5, e6]]
                exact hs_e w (Lib.hid h1) (Lib.hid h2) (Lib.hid (by simp [e5])) (Lib.hid (by simp [e6]))
              · rw [show sameV k p q g xs us r k p q g xs2 us2 r2 = false by simp [sameV, e7]]
                exact hs_r w (Lib.hid h1) (Lib.hid h2) (Lib.hid (by simp [e5])) (Lib.hid (by simp [e6])) (beq_f e7)
            · rw [show sameV k p q g xs us r k p q g xs2 us2 r2 = false by simp [sameV, e6]]
              exact hs_u w (Lib.hid h1) (Lib.hid h2) (Lib.hid (by simp [e5])) (Lib.hid (by simp [e6]))
          · rw [show sameV k p q g xs us r k p q g xs2 us2 r2 = false by simp [sameV, e5]]
            exact hs_x w (Lib.hid h1) (Lib.hid h2) (Lib.hid (by simp [e5]))
        · rw [show sameV k p q g xs us r k p q g2 xs2 us2 r2 = false by simp [sameV, e4], xor_of e4]
          exact hs_g w
      · rw [show sameV k p q g xs us r k p q2 g2 xs2 us2 r2 = false by simp [sameV, e3]]
        exact hs_q w (beq_f e3)
    · rw [show sameV k p q g xs us r k p2 q2 g2 xs2 us2 r2 = false by simp [sameV, e2]]
      exact hs_p w (beq_f e2)
  · rw [show sameV k p q g xs us r k2 p2 q2 g2 xs2 us2 r2 = false by simp [sameV, e1]]
    exact hs_k w (beq_f e1)
end Go.Proofs.YtgljfgkkolfnbaaGreatDoor
