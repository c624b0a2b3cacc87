/- Values: what lies in memory; slices.Equal of limbs. -/
import Derived.IntWalk
import Derived.Test.YtakahpbondaidaaGreatDoorPZB
import Derived.Test.YtakahpbondaidaaGreatDoorPZE
import Derived.Test.YtakahpbondaidaaGreatDoorPZH
namespace Go.Proofs.YtakahpbondaidaaGreatDoor
open Go.RowKit

set_option maxRecDepth 100000 in
set_option maxHeartbeats 1000000 in
theorem equal32_c (A C : Option Addr) (xs ys : List Nat) (n c m d : Nat) (w : World) (ha : Ar .u32 4294967296 w A xs n c) (hb : Ar .u32 4294967296 w C ys m d) :
    Calls Tryz.prog 133 #[.slice A n c, .slice C m d] w fun e w' => e = .returned (.bool (decide (xs = ys))) ∧ Plus w w' := by
  obtain ⟨hrd, hlen, hcap, hmax, hbd⟩ := ha
  obtain ⟨krd, klen, kcap, kmax, kbd⟩ := hb
  subst hlen klen
  by_cases hl : xs.length = ys.length
  · have b1 : ((xs.length : Int) != (ys.length : Int)) = false := by simp [hl]
    have HL := Lib.hid hl
    clear hl
    go_enter Tryz.func133, Tryz.ntmps133
    go_wp2
    go_loopw [13] (fun s13 wr => EqRel xs ys s13 ∧ Plus w wr) (fun s13 _ => ((xs.length : Int) - intOf s13).toNat)
    case atStart => exact ⟨⟨0, by omega, rfl, rfl⟩, Plus.refl _⟩
    case round =>
      obtain ⟨⟨k, hk, rfl, he⟩, hp⟩ := hrel
      by_cases hlt : k < xs.length
      · obtain ⟨g, o, rfl, hg, hat⟩ := hrd.at_ hlt
        have hlt2 : k < ys.length := by rw [← HL.out]; exact hlt
        obtain ⟨g2, o2, rfl, hg2, hat2⟩ := krd.at_ hlt2
        have hcell := hat.plus hg hp k hlt
        have hcell2 := hat2.plus hg2 hp k hlt2
        have hadd := add_addr g o k
        have hadd2 := add_addr g2 o2 k
        have HE := Lib.hid he
        have HP := Lib.hid hp
        clear he hat hat2 hp
        obtain ⟨v, hv⟩ : ∃ v, xs.getD k 0 = v := ⟨_, rfl⟩
        obtain ⟨u, hu⟩ : ∃ u, ys.getD k 0 = u := ⟨_, rfl⟩
        rw [hv] at hcell
        rw [hu] at hcell2
        have HV := Lib.hid hv
        have HU := Lib.hid hu
        clear hv hu
        by_cases hvu : v = u
        · subst hvu
          have HT := Lib.hid (take_ext HE.out hlt hlt2 (by rw [HV.out, HU.out]))
          go_wp2_with fail
          go_quiet (fail)
          go_wp2_with fail
          go_roundw
          case rel => exact ⟨⟨k + 1, hlt, by rw [show ((k + 1 : Nat) : Int) = (k : Int) + 1 by omega], HT.out⟩, HP.out.drewN _⟩
          case measure => simp [intOf]; omega
        · have b2 : ((v : Int) != (u : Int)) = true := by simp; omega
          have HN : Hid (decide (xs = ys) = false) := Lib.hid (by simp; intro e; subst e; exact hvu (HV.out.symm.trans HU.out))
          go_wp2_with fail
          go_quiet (fail)
          go_wp2_with fail
          go_ret
          exact ⟨by rw [HN.out]; rfl, HP.out.drewN _⟩
      · obtain rfl : k = xs.length := by omega
        have HR : Hid (decide (xs = ys) = true) := Lib.hid (by
          rw [List.take_length, HL.out, List.take_length] at he
          simpa using he)
        have HP := Lib.hid hp
        clear he hp
        go_wp2_with fail
        go_ret
        exact ⟨by rw [HR.out]; rfl, HP.out⟩
  · have b1 : ((xs.length : Int) != (ys.length : Int)) = true := by simp; omega
    have HN : Hid (decide (xs = ys) = false) := Lib.hid (by simp; intro e; subst e; exact hl rfl)
    go_enter Tryz.func133, Tryz.ntmps133
    go_wp2
    go_ret
    exact ⟨by rw [HN.out]; rfl, Plus.refl _⟩

theorem equal32_v {A C : Option Addr} {xs ys : List Nat} {n c m d : Nat} {b : Bool} (h : Hid (decide (xs = ys) = b)) (w : World) (ha : Ar .u32 4294967296 w A xs n c) (hb : Ar .u32 4294967296 w C ys m d) :
    Calls Tryz.prog 133 #[.slice A n c, .slice C m d] w fun e w' => e = .returned (.bool b) ∧ Plus w w' := by
  rw [← h.out]
  exact equal32_c A C xs ys n c m d w ha hb
theorem tsame_v {A C : Option Addr} {xs ys : List Nat} {n c m d : Nat} {b : Bool} (h : Hid (decide (xs = ys) = b)) (w : World) (ha : Ar .u16 65536 w A xs n c) (hb : Ar .u16 65536 w C ys m d) :
    Calls Tryz.prog 134 #[.slice A n c, .slice C m d] w fun e w' => e = .returned (.bool b) ∧ Plus w w' := by
  rw [← h.out]
  exact same_c A C xs ys n c m d w ha hb
/-- Limbs, as big's contracts have them. -/
theorem lim_rd {w : World} {A : Option Addr} {xs : List Nat} (h : Rd .u32 w A xs) (ho : Bg.okL xs) : Bg.Lim w A xs := ⟨ho, fun h0 => by
  obtain ⟨g, o, rfl, hg, hc⟩ := h h0
  refine ⟨_, rfl, hg, fun j hj => ?_⟩
  rw [add_addr]
  exact hc j hj⟩
theorem rd_lim {w : World} {A : Option Addr} {xs : List Nat} (h : Bg.Lim w A xs) : Rd .u32 w A xs := fun h0 => by
  obtain ⟨ad, rfl, hg, hc⟩ := h.2 h0
  have hs := World.cell?_spot (hc 0 h0)
  have e0 : ad.add 0 = ad := by unfold Addr.add; rw [if_pos rfl]
  rw [e0] at hs
  obtain ⟨b, o, sp⟩ := ad
  simp only at hs
  subst hs
  refine ⟨b, o, rfl, hg, fun j hj => ?_⟩
  rw [← add_addr]
  exact hc j hj
theorem arg_ar {w : World} {A : Option Addr} {xs : List Nat} {n c : Nat} (h : Ar .u32 4294967296 w A xs n c) (hf : n ≤ 1048576) : Bg.Arg w A xs n c :=
  ⟨lim_rd h.rd h.bd, h.len, by rw [← h.len]; exact hf, by rw [← h.len]; exact h.cap, h.max⟩
theorem ar_arg {w : World} {A : Option Addr} {xs : List Nat} {n c : Nat} (h : Bg.Arg w A xs n c) : Ar .u32 4294967296 w A xs n c :=
  ⟨rd_lim h.lim, h.len, by rw [h.len]; exact h.cap, h.max, h.lim.1⟩
/-- A value's slices in memory. -/
structure VM (w : World) (A : Option Addr) (xs : List Nat) (n c : Nat) (C : Option Addr) (us : List Nat) (m d : Nat) : Prop where
  b : Ar .u32 4294967296 w A xs n c
  s : Ar .u16 65536 w C us m d
theorem VM.plus {w w' : World} {A C : Option Addr} {xs us : List Nat} {n c m d : Nat} (h : VM w A xs n c C us m d) (hp : Plus w w') : VM w' A xs n c C us m d := ⟨h.b.plus hp, h.s.plus hp⟩
theorem Ar.nil (k : IntKind) (K : Nat) (w : World) (c : Nat) (hc : c ≤ 9223372036854775807) (A : Option Addr) : Ar k K w A [] 0 c := ⟨Rd.nil, rfl, Nat.zero_le _, hc, fun _ h => absurd h (by simp)⟩
theorem VM.nil (w : World) : VM w none [] 0 0 none [] 0 0 := ⟨Ar.nil _ _ _ _ (by omega) _, Ar.nil _ _ _ _ (by omega) _⟩
end Go.Proofs.YtakahpbondaidaaGreatDoor
namespace Go.Proofs.YtakahpbondaidaaGreatDoor
open Go.RowKit

theorem xor_of {a b : Bool} (h : a ≠ b) : b = !a := by cases a <;> cases b <;> simp_all
set_option maxRecDepth 100000 in
set_option maxHeartbeats 4000000 in
theorem hs_k {k p q : Int} {g : Bool} {A C : Option Addr} {n c m d : Nat} {r : Int} {k2 p2 q2 : Int} {g2 : Bool} {A2 C2 : Option Addr} {n2 c2 m2 d2 : Nat} {r2 : Int} (w : World) (b : (k == k2) = false) : Calls Tryz.prog 75 #[Value.agg #[.int .i64 k, .int .i64 p, .int .i64 q, .bool g, .slice A n c, .slice C m d, .int .i64 r], Value.agg #[.int .i64 k2, .int .i64 p2, .int .i64 q2, .bool g2, .slice A2 n2 c2, .slice C2 m2 d2, .int .i64 r2]] w fun e w' => e = .returned (.bool false) ∧ Plus w w' := by
  go_enter Tryz.func75, Tryz.ntmps75
  go_wp2_with fail
  go_returns
  exact ⟨rfl, (by repeat' (first | exact Plus.refl _ | refine Plus.alloc ?_ _ | refine Plus.plus ?_ _ | refine Plus.drew ?_ | refine Plus.drewN ?_ _))⟩
set_option maxRecDepth 100000 in
set_option maxHeartbeats 4000000 in
theorem hs_p {k p q : Int} {g : Bool} {A C : Option Addr} {n c m d : Nat} {r : Int} {p2 q2 : Int} {g2 : Bool} {A2 C2 : Option Addr} {n2 c2 m2 d2 : Nat} {r2 : Int} (w : World) (b : (p == p2) = false) : Calls Tryz.prog 75 #[Value.agg #[.int .i64 k, .int .i64 p, .int .i64 q, .bool g, .slice A n c, .slice C m d, .int .i64 r], Value.agg #[.int .i64 k, .int .i64 p2, .int .i64 q2, .bool g2, .slice A2 n2 c2, .slice C2 m2 d2, .int .i64 r2]] w fun e w' => e = .returned (.bool false) ∧ Plus w w' := by
  go_enter Tryz.func75, Tryz.ntmps75
  go_wp2_with fail
  go_returns
  exact ⟨rfl, (by repeat' (first | exact Plus.refl _ | refine Plus.alloc ?_ _ | refine Plus.plus ?_ _ | refine Plus.drew ?_ | refine Plus.drewN ?_ _))⟩
set_option maxRecDepth 100000 in
set_option maxHeartbeats 4000000 in
theorem hs_q {k p q : Int} {g : Bool} {A C : Option Addr} {n c m d : Nat} {r : Int} {q2 : Int} {g2 : Bool} {A2 C2 : Option Addr} {n2 c2 m2 d2 : Nat} {r2 : Int} (w : World) (b : (q == q2) = false) : Calls Tryz.prog 75 #[Value.agg #[.int .i64 k, .int .i64 p, .int .i64 q, .bool g, .slice A n c, .slice C m d, .int .i64 r], Value.agg #[.int .i64 k, .int .i64 p, .int .i64 q2, .bool g2, .slice A2 n2 c2, .slice C2 m2 d2, .int .i64 r2]] w fun e w' => e = .returned (.bool false) ∧ Plus w w' := by
  go_enter Tryz.func75, Tryz.ntmps75
  go_wp2_with fail
  go_returns
  exact ⟨rfl, (by repeat' (first | exact Plus.refl _ | refine Plus.alloc ?_ _ | refine Plus.plus ?_ _ | refine Plus.drew ?_ | refine Plus.drewN ?_ _))⟩
set_option maxRecDepth 100000 in
set_option maxHeartbeats 4000000 in
theorem hs_g {k p q : Int} {g : Bool} {A C : Option Addr} {n c m d : Nat} {r : Int} {A2 C2 : Option Addr} {n2 c2 m2 d2 : Nat} {r2 : Int} (w : World) : Calls Tryz.prog 75 #[Value.agg #[.int .i64 k, .int .i64 p, .int .i64 q, .bool g, .slice A n c, .slice C m d, .int .i64 r], Value.agg #[.int .i64 k, .int .i64 p, .int .i64 q, .bool (!g), .slice A2 n2 c2, .slice C2 m2 d2, .int .i64 r2]] w fun e w' => e = .returned (.bool false) ∧ Plus w w' := by
  cases g
  · go_enter Tryz.func75, Tryz.ntmps75
    go_wp2_with fail
    go_returns
    exact ⟨rfl, (by repeat' (first | exact Plus.refl _ | refine Plus.alloc ?_ _ | refine Plus.plus ?_ _ | refine Plus.drew ?_ | refine Plus.drewN ?_ _))⟩
  · go_enter Tryz.func75, Tryz.ntmps75
    go_wp2_with fail
    go_returns
    exact ⟨rfl, (by repeat' (first | exact Plus.refl _ | refine Plus.alloc ?_ _ | refine Plus.plus ?_ _ | refine Plus.drew ?_ | refine Plus.drewN ?_ _))⟩
set_option maxRecDepth 100000 in
set_option maxHeartbeats 4000000 in
theorem hs_x {k p q : Int} {g : Bool} {A C : Option Addr} {xs us : List Nat} {n c m d : Nat} {r : Int} {A2 C2 : Option Addr} {xs2 us2 : List Nat} {n2 c2 m2 d2 : Nat} {r2 : Int} (w : World) (H1 : Hid (VM w A xs n c C us m d)) (H2 : Hid (VM w A2 xs2 n2 c2 C2 us2 m2 d2)) (hx : Hid (decide (xs = xs2) = false)) : Calls Tryz.prog 75 #[Value.agg #[.int .i64 k, .int .i64 p, .int .i64 q, .bool g, .slice A n c, .slice C m d, .int .i64 r], Value.agg #[.int .i64 k, .int .i64 p, .int .i64 q, .bool g, .slice A2 n2 c2, .slice C2 m2 d2, .int .i64 r2]] w fun e w' => e = .returned (.bool false) ∧ Plus w w' := by
  cases g
  · go_enter Tryz.func75, Tryz.ntmps75
    go_wp2_with (go_at_call 133; (with_reducible refine (equal32_v hx _ (H1.out.b.plus (by repeat' (first | exact Plus.refl _ | refine Plus.alloc ?_ _ | refine Plus.plus ?_ _ | refine Plus.drew ?_ | refine Plus.drewN ?_ _))) (H2.out.b.plus (by repeat' (first | exact Plus.refl _ | refine Plus.alloc ?_ _ | refine Plus.plus ?_ _ | refine Plus.drew ?_ | refine Plus.drewN ?_ _)))).mono ?_); rintro e w1 ⟨rfl, ⟨x1, rfl⟩⟩)
    go_returns
    exact ⟨rfl, (by repeat' (first | exact Plus.refl _ | refine Plus.alloc ?_ _ | refine Plus.plus ?_ _ | refine Plus.drew ?_ | refine Plus.drewN ?_ _))⟩
  · go_enter Tryz.func75, Tryz.ntmps75
    go_wp2_with (go_at_call 133; (with_reducible refine (equal32_v hx _ (H1.out.b.plus (by repeat' (first | exact Plus.refl _ | refine Plus.alloc ?_ _ | refine Plus.plus ?_ _ | refine Plus.drew ?_ | refine Plus.drewN ?_ _))) (H2.out.b.plus (by repeat' (first | exact Plus.refl _ | refine Plus.alloc ?_ _ | refine Plus.plus ?_ _ | refine Plus.drew ?_ | refine Plus.drewN ?_ _)))).mono ?_); rintro e w1 ⟨rfl, ⟨x1, rfl⟩⟩)
    go_returns
    exact ⟨rfl, (by repeat' (first | exact Plus.refl _ | refine Plus.alloc ?_ _ | refine Plus.plus ?_ _ | refine Plus.drew ?_ | refine Plus.drewN ?_ _))⟩
set_option maxRecDepth 100000 in
set_option maxHeartbeats 4000000 in
theorem hs_u {k p q : Int} {g : Bool} {A C : Option Addr} {xs us : List Nat} {n c m d : Nat} {r : Int} {A2 C2 : Option Addr} {xs2 us2 : List Nat} {n2 c2 m2 d2 : Nat} {r2 : Int} (w : World) (H1 : Hid (VM w A xs n c C us m d)) (H2 : Hid (VM w A2 xs2 n2 c2 C2 us2 m2 d2)) (hx : Hid (decide (xs = xs2) = true)) (hu : Hid (decide (us = us2) = false)) : Calls Tryz.prog 75 #[Value.agg #[.int .i64 k, .int .i64 p, .int .i64 q, .bool g, .slice A n c, .slice C m d, .int .i64 r], Value.agg #[.int .i64 k, .int .i64 p, .int .i64 q, .bool g, .slice A2 n2 c2, .slice C2 m2 d2, .int .i64 r2]] w fun e w' => e = .returned (.bool false) ∧ Plus w w' := by
  cases g
  · go_enter Tryz.func75, Tryz.ntmps75
    go_wp2_with (first | (go_at_call 133; (with_reducible refine (equal32_v hx _ (H1.out.b.plus (by repeat' (first | exact Plus.refl _ | refine Plus.alloc ?_ _ | refine Plus.plus ?_ _ | refine Plus.drew ?_ | refine Plus.drewN ?_ _))) (H2.out.b.plus (by repeat' (first | exact Plus.refl _ | refine Plus.alloc ?_ _ | refine Plus.plus ?_ _ | refine Plus.drew ?_ | refine Plus.drewN ?_ _)))).mono ?_); rintro e w1 ⟨rfl, ⟨x1, rfl⟩⟩) | (go_at_call 134; (with_reducible refine (tsame_v hu _ (H1.out.s.plus (by repeat' (first | exact Plus.refl _ | refine Plus.alloc ?_ _ | refine Plus.plus ?_ _ | refine Plus.drew ?_ | refine Plus.drewN ?_ _))) (H2.out.s.plus (by repeat' (first | exact Plus.refl _ | refine Plus.alloc ?_ _ | refine Plus.plus ?_ _ | refine Plus.drew ?_ | refine Plus.drewN ?_ _)))).mono ?_); rintro e w1 ⟨rfl, ⟨x2, rfl⟩⟩))
    go_returns
    exact ⟨rfl, (by repeat' (first | exact Plus.refl _ | refine Plus.alloc ?_ _ | refine Plus.plus ?_ _ | refine Plus.drew ?_ | refine Plus.drewN ?_ _))⟩
  · go_enter Tryz.func75, Tryz.ntmps75
    go_wp2_with (first | (go_at_call 133; (with_reducible refine (equal32_v hx _ (H1.out.b.plus (by repeat' (first | exact Plus.refl _ | refine Plus.alloc ?_ _ | refine Plus.plus ?_ _ | refine Plus.drew ?_ | refine Plus.drewN ?_ _))) (H2.out.b.plus (by repeat' (first | exact Plus.refl _ | refine Plus.alloc ?_ _ | refine Plus.plus ?_ _ | refine Plus.drew ?_ | refine Plus.drewN ?_ _)))).mono ?_); rintro e w1 ⟨rfl, ⟨x1, rfl⟩⟩) | (go_at_call 134; (with_reducible refine (tsame_v hu _ (H1.out.s.plus (by repeat' (first | exact Plus.refl _ | refine Plus.alloc ?_ _ | refine Plus.plus ?_ _ | refine Plus.drew ?_ | refine Plus.drewN ?_ _))) (H2.out.s.plus (by repeat' (first | exact Plus.refl _ | refine Plus.alloc ?_ _ | refine Plus.plus ?_ _ | refine Plus.drew ?_ | refine Plus.drewN ?_ _)))).mono ?_); rintro e w1 ⟨rfl, ⟨x2, rfl⟩⟩))
    go_returns
    exact ⟨rfl, (by repeat' (first | exact Plus.refl _ | refine Plus.alloc ?_ _ | refine Plus.plus ?_ _ | refine Plus.drew ?_ | refine Plus.drewN ?_ _))⟩
set_option maxRecDepth 100000 in
set_option maxHeartbeats 4000000 in
theorem hs_r {k p q : Int} {g : Bool} {A C : Option Addr} {xs us : List Nat} {n c m d : Nat} {r : Int} {A2 C2 : Option Addr} {xs2 us2 : List Nat} {n2 c2 m2 d2 : Nat} {r2 : Int} (w : World) (H1 : Hid (VM w A xs n c C us m d)) (H2 : Hid (VM w A2 xs2 n2 c2 C2 us2 m2 d2)) (hx : Hid (decide (xs = xs2) = true)) (hu : Hid (decide (us = us2) = true)) (b : (r == r2) = false) : Calls Tryz.prog 75 #[Value.agg #[.int .i64 k, .int .i64 p, .int .i64 q, .bool g, .slice A n c, .slice C m d, .int .i64 r], Value.agg #[.int .i64 k, .int .i64 p, .int .i64 q, .bool g, .slice A2 n2 c2, .slice C2 m2 d2, .int .i64 r2]] w fun e w' => e = .returned (.bool false) ∧ Plus w w' := by
  cases g
  · go_enter Tryz.func75, Tryz.ntmps75
    go_wp2_with (first | (go_at_call 133; (with_reducible refine (equal32_v hx _ (H1.out.b.plus (by repeat' (first | exact Plus.refl _ | refine Plus.alloc ?_ _ | refine Plus.plus ?_ _ | refine Plus.drew ?_ | refine Plus.drewN ?_ _))) (H2.out.b.plus (by repeat' (first | exact Plus.refl _ | refine Plus.alloc ?_ _ | refine Plus.plus ?_ _ | refine Plus.drew ?_ | refine Plus.drewN ?_ _)))).mono ?_); rintro e w1 ⟨rfl, ⟨x1, rfl⟩⟩) | (go_at_call 134; (with_reducible refine (tsame_v hu _ (H1.out.s.plus (by repeat' (first | exact Plus.refl _ | refine Plus.alloc ?_ _ | refine Plus.plus ?_ _ | refine Plus.drew ?_ | refine Plus.drewN ?_ _))) (H2.out.s.plus (by repeat' (first | exact Plus.refl _ | refine Plus.alloc ?_ _ | refine Plus.plus ?_ _ | refine Plus.drew ?_ | refine Plus.drewN ?_ _)))).mono ?_); rintro e w1 ⟨rfl, ⟨x2, rfl⟩⟩))
    go_returns
    exact ⟨rfl, (by repeat' (first | exact Plus.refl _ | refine Plus.alloc ?_ _ | refine Plus.plus ?_ _ | refine Plus.drew ?_ | refine Plus.drewN ?_ _))⟩
  · go_enter Tryz.func75, Tryz.ntmps75
    go_wp2_with (first | (go_at_call 133; (with_reducible refine (equal32_v hx _ (H1.out.b.plus (by repeat' (first | exact Plus.refl _ | refine Plus.alloc ?_ _ | refine Plus.plus ?_ _ | refine Plus.drew ?_ | refine Plus.drewN ?_ _))) (H2.out.b.plus (by repeat' (first | exact Plus.refl _ | refine Plus.alloc ?_ _ | refine Plus.plus ?_ _ | refine Plus.drew ?_ | refine Plus.drewN ?_ _)))).mono ?_); rintro e w1 ⟨rfl, ⟨x1, rfl⟩⟩) | (go_at_call 134; (with_reducible refine (tsame_v hu _ (H1.out.s.plus (by repeat' (first | exact Plus.refl _ | refine Plus.alloc ?_ _ | refine Plus.plus ?_ _ | refine Plus.drew ?_ | refine Plus.drewN ?_ _))) (H2.out.s.plus (by repeat' (first | exact Plus.refl _ | refine Plus.alloc ?_ _ | refine Plus.plus ?_ _ | refine Plus.drew ?_ | refine Plus.drewN ?_ _)))).mono ?_); rintro e w1 ⟨rfl, ⟨x2, rfl⟩⟩))
    go_returns
    exact ⟨rfl, (by repeat' (first | exact Plus.refl _ | refine Plus.alloc ?_ _ | refine Plus.plus ?_ _ | refine Plus.drew ?_ | refine Plus.drewN ?_ _))⟩
set_option maxRecDepth 100000 in
set_option maxHeartbeats 4000000 in
theorem hs_e {k p q : Int} {g : Bool} {A C : Option Addr} {xs us : List Nat} {n c m d : Nat} {r : Int} {A2 C2 : Option Addr} {xs2 us2 : List Nat} {n2 c2 m2 d2 : Nat} (w : World) (H1 : Hid (VM w A xs n c C us m d)) (H2 : Hid (VM w A2 xs2 n2 c2 C2 us2 m2 d2)) (hx : Hid (decide (xs = xs2) = true)) (hu : Hid (decide (us = us2) = true)) : Calls Tryz.prog 75 #[Value.agg #[.int .i64 k, .int .i64 p, .int .i64 q, .bool g, .slice A n c, .slice C m d, .int .i64 r], Value.agg #[.int .i64 k, .int .i64 p, .int .i64 q, .bool g, .slice A2 n2 c2, .slice C2 m2 d2, .int .i64 r]] w fun e w' => e = .returned (.bool true) ∧ Plus w w' := by
  cases g
  · go_enter Tryz.func75, Tryz.ntmps75
    go_wp2_with (first | (go_at_call 133; (with_reducible refine (equal32_v hx _ (H1.out.b.plus (by repeat' (first | exact Plus.refl _ | refine Plus.alloc ?_ _ | refine Plus.plus ?_ _ | refine Plus.drew ?_ | refine Plus.drewN ?_ _))) (H2.out.b.plus (by repeat' (first | exact Plus.refl _ | refine Plus.alloc ?_ _ | refine Plus.plus ?_ _ | refine Plus.drew ?_ | refine Plus.drewN ?_ _)))).mono ?_); rintro e w1 ⟨rfl, ⟨x1, rfl⟩⟩) | (go_at_call 134; (with_reducible refine (tsame_v hu _ (H1.out.s.plus (by repeat' (first | exact Plus.refl _ | refine Plus.alloc ?_ _ | refine Plus.plus ?_ _ | refine Plus.drew ?_ | refine Plus.drewN ?_ _))) (H2.out.s.plus (by repeat' (first | exact Plus.refl _ | refine Plus.alloc ?_ _ | refine Plus.plus ?_ _ | refine Plus.drew ?_ | refine Plus.drewN ?_ _)))).mono ?_); rintro e w1 ⟨rfl, ⟨x2, rfl⟩⟩))
    go_returns
    exact ⟨rfl, (by repeat' (first | exact Plus.refl _ | refine Plus.alloc ?_ _ | refine Plus.plus ?_ _ | refine Plus.drew ?_ | refine Plus.drewN ?_ _))⟩
  · go_enter Tryz.func75, Tryz.ntmps75
    go_wp2_with (first | (go_at_call 133; (with_reducible refine (equal32_v hx _ (H1.out.b.plus (by repeat' (first | exact Plus.refl _ | refine Plus.alloc ?_ _ | refine Plus.plus ?_ _ | refine Plus.drew ?_ | refine Plus.drewN ?_ _))) (H2.out.b.plus (by repeat' (first | exact Plus.refl _ | refine Plus.alloc ?_ _ | refine Plus.plus ?_ _ | refine Plus.drew ?_ | refine Plus.drewN ?_ _)))).mono ?_); rintro e w1 ⟨rfl, ⟨x1, rfl⟩⟩) | (go_at_call 134; (with_reducible refine (tsame_v hu _ (H1.out.s.plus (by repeat' (first | exact Plus.refl _ | refine Plus.alloc ?_ _ | refine Plus.plus ?_ _ | refine Plus.drew ?_ | refine Plus.drewN ?_ _))) (H2.out.s.plus (by repeat' (first | exact Plus.refl _ | refine Plus.alloc ?_ _ | refine Plus.plus ?_ _ | refine Plus.drew ?_ | refine Plus.drewN ?_ _)))).mono ?_); rintro e w1 ⟨rfl, ⟨x2, rfl⟩⟩))
    go_returns
    exact ⟨rfl, (by repeat' (first | exact Plus.refl _ | refine Plus.alloc ?_ _ | refine Plus.plus ?_ _ | refine Plus.drew ?_ | refine Plus.drewN ?_ _))⟩
def sameV (k p q : Int) (g : Bool) (xs us : List Nat) (r : Int) (k2 p2 q2 : Int) (g2 : Bool) (xs2 us2 : List Nat) (r2 : Int) : Bool := decide (k = k2 ∧ p = p2 ∧ q = q2 ∧ g = g2 ∧ xs = xs2 ∧ us = us2 ∧ r = r2)
theorem hsame_c (k p q : Int) (g : Bool) (A C : Option Addr) (xs us : List Nat) (n c m d : Nat) (r : Int) (k2 p2 q2 : Int) (g2 : Bool) (A2 C2 : Option Addr) (xs2 us2 : List Nat) (n2 c2 m2 d2 : Nat) (r2 : Int) (w : World) (h1 : VM w A xs n c C us m d) (h2 : VM w A2 xs2 n2 c2 C2 us2 m2 d2) : Calls Tryz.prog 75 #[Value.agg #[.int .i64 k, .int .i64 p, .int .i64 q, .bool g, .slice A n c, .slice C m d, .int .i64 r], Value.agg #[.int .i64 k2, .int .i64 p2, .int .i64 q2, .bool g2, .slice A2 n2 c2, .slice C2 m2 d2, .int .i64 r2]] w fun e w' => e = .returned (.bool (sameV k p q g xs us r k2 p2 q2 g2 xs2 us2 r2)) ∧ Plus w w' := by
  by_cases e1 : k = k2
  · subst e1
    by_cases e2 : p = p2
    · subst e2
      by_cases e3 : q = q2
      · subst e3
        by_cases e4 : g = g2
        · subst e4
          by_cases e5 : xs = xs2
          · by_cases e6 : us = us2
            · by_cases e7 : r = r2
              · subst e7
                rw [show sameV k p q g xs us r k p q g xs2 us2 r = true by simp [sameV, e5, e6]]
                exact hs_e w (Lib.hid h1) (Lib.hid h2) (Lib.hid (by simp [e5])) (Lib.hid (by simp [e6]))
              · rw [show sameV k p q g xs us r k p q g xs2 us2 r2 = false by simp [sameV, e7]]
                exact hs_r w (Lib.hid h1) (Lib.hid h2) (Lib.hid (by simp [e5])) (Lib.hid (by simp [e6])) (beq_f e7)
            · rw [show sameV k p q g xs us r k p q g xs2 us2 r2 = false by simp [sameV, e6]]
              exact hs_u w (Lib.hid h1) (Lib.hid h2) (Lib.hid (by simp [e5])) (Lib.hid (by simp [e6]))
          · rw [show sameV k p q g xs us r k p q g xs2 us2 r2 = false by simp [sameV, e5]]
            exact hs_x w (Lib.hid h1) (Lib.hid h2) (Lib.hid (by simp [e5]))
        · rw [show sameV k p q g xs us r k p q g2 xs2 us2 r2 = false by simp [sameV, e4], xor_of e4]
          exact hs_g w
      · rw [show sameV k p q g xs us r k p q2 g2 xs2 us2 r2 = false by simp [sameV, e3]]
        exact hs_q w (beq_f e3)
    · rw [show sameV k p q g xs us r k p2 q2 g2 xs2 us2 r2 = false by simp [sameV, e2]]
      exact hs_p w (beq_f e2)
  · rw [show sameV k p q g xs us r k2 p2 q2 g2 xs2 us2 r2 = false by simp [sameV, e1]]
    exact hs_k w (beq_f e1)
end Go.Proofs.YtakahpbondaidaaGreatDoor
namespace Go.Proofs.YtakahpbondaidaaGreatDoor
open Go.RowKit

theorem hsame_v {k p q : Int} {g : Bool} {A C : Option Addr} {xs us : List Nat} {n c m d : Nat} {r : Int} {k2 p2 q2 : Int} {g2 : Bool} {A2 C2 : Option Addr} {xs2 us2 : List Nat} {n2 c2 m2 d2 : Nat} {r2 : Int} {z : Bool} (h : Hid (sameV k p q g xs us r k2 p2 q2 g2 xs2 us2 r2 = z)) (w : World) (h1 : VM w A xs n c C us m d) (h2 : VM w A2 xs2 n2 c2 C2 us2 m2 d2) :
    Calls Tryz.prog 75 #[Value.agg #[.int .i64 k, .int .i64 p, .int .i64 q, .bool g, .slice A n c, .slice C m d, .int .i64 r], Value.agg #[.int .i64 k2, .int .i64 p2, .int .i64 q2, .bool g2, .slice A2 n2 c2, .slice C2 m2 d2, .int .i64 r2]] w fun e w' => e = .returned (.bool z) ∧ Plus w w' := by
  rw [← h.out]
  exact hsame_c _ _ _ _ _ _ _ _ _ _ _ _ _ _ _ _ _ _ _ _ _ _ _ _ _ _ w h1 h2
theorem bmay_v {g : Bool} {A : Option Addr} {xs : List Nat} {n c : Nat} {v : Bool} (hr : Hid (Bg.mayL g xs = v)) (w : World) (ha : Bg.Arg w A xs n c) :
    Calls Tryz.prog 176 #[.agg #[.bool g, .slice A n c]] w fun e w' => e = .returned (.bool v) ∧ Plus w w' := Bg.may_n hr w ha
theorem nmay_v {p q : Int} {v : Bool} (h : Hid (mayB p q = v)) (w : World) : Calls Tryz.prog 175 #[.agg #[.int .i64 p, .int .i64 q]] w fun e w' => e = .returned (.bool v) ∧ Plus w w' := by
  rw [← h.out]
  exact may_c p q w
set_option maxRecDepth 100000 in
set_option maxHeartbeats 4000000 in
theorem may_0y {p q : Int} {g : Bool} {A C : Option Addr} {xs us : List Nat} {n c m d : Nat} {r : Int} {z : Bool} (w : World) (H : Hid (VM w A xs n c C us m d)) (hz : Hid (sameV 0 p q g xs us r 0 0 0 false [] [] 0 = z)) : Calls Tryz.prog 95 #[Value.agg #[.int .i64 0, .int .i64 p, .int .i64 q, .bool g, .slice A n c, .slice C m d, .int .i64 r]] w fun e w' => e = .returned (.bool z) ∧ Plus w w' := by
  go_enter Tryz.func95, Tryz.ntmps95
  go_wp2_with (go_at_call 75; (with_reducible refine (hsame_v hz _ (H.out.plus (by repeat' (first | exact Plus.refl _ | refine Plus.alloc ?_ _ | refine Plus.plus ?_ _ | refine Plus.drew ?_ | refine Plus.drewN ?_ _))) ⟨(Ar.nil _ _ _ _ (by omega) _), (Ar.nil _ _ _ _ (by omega) _)⟩).mono ?_); rintro e w1 ⟨rfl, ⟨x9, rfl⟩⟩)
  all_goals go_returns
  all_goals exact ⟨rfl, (by repeat' (first | exact Plus.refl _ | refine Plus.alloc ?_ _ | refine Plus.plus ?_ _ | refine Plus.drew ?_ | refine Plus.drewN ?_ _))⟩
set_option maxRecDepth 100000 in
set_option maxHeartbeats 4000000 in
theorem may_1y {p q : Int} {g : Bool} {A C : Option Addr} {xs us : List Nat} {n c m d : Nat} {r : Int} {z : Bool} (w : World) (H : Hid (VM w A xs n c C us m d)) (hz : Hid (sameV 1 p q g xs us r 1 0 0 false [] [] 0 = z)) : Calls Tryz.prog 95 #[Value.agg #[.int .i64 1, .int .i64 p, .int .i64 q, .bool g, .slice A n c, .slice C m d, .int .i64 r]] w fun e w' => e = .returned (.bool z) ∧ Plus w w' := by
  go_enter Tryz.func95, Tryz.ntmps95
  go_wp2_with (go_at_call 75; (with_reducible refine (hsame_v hz _ (H.out.plus (by repeat' (first | exact Plus.refl _ | refine Plus.alloc ?_ _ | refine Plus.plus ?_ _ | refine Plus.drew ?_ | refine Plus.drewN ?_ _))) ⟨(Ar.nil _ _ _ _ (by omega) _), (Ar.nil _ _ _ _ (by omega) _)⟩).mono ?_); rintro e w1 ⟨rfl, ⟨x9, rfl⟩⟩)
  all_goals go_returns
  all_goals exact ⟨rfl, (by repeat' (first | exact Plus.refl _ | refine Plus.alloc ?_ _ | refine Plus.plus ?_ _ | refine Plus.drew ?_ | refine Plus.drewN ?_ _))⟩
set_option maxRecDepth 100000 in
set_option maxHeartbeats 4000000 in
theorem may_2y0 {p q : Int} {g : Bool} {A C : Option Addr} {xs us : List Nat} {n c m d : Nat} {r : Int} {z : Bool} (w : World) (H : Hid (VM w A xs n c C us m d)) (hz : Hid (sameV 2 p q g xs us r 2 0 0 false [] [] r = z)) (hr : r = 0) : Calls Tryz.prog 95 #[Value.agg #[.int .i64 2, .int .i64 p, .int .i64 q, .bool g, .slice A n c, .slice C m d, .int .i64 r]] w fun e w' => e = .returned (.bool z) ∧ Plus w w' := by
  subst hr
  go_enter Tryz.func95, Tryz.ntmps95
  go_wp2_with fail
  go_region
  all_goals go_wp2_with (go_at_call 75; (with_reducible refine (hsame_v hz _ (H.out.plus (by repeat' (first | exact Plus.refl _ | refine Plus.alloc ?_ _ | refine Plus.plus ?_ _ | refine Plus.drew ?_ | refine Plus.drewN ?_ _))) ⟨(Ar.nil _ _ _ _ (by omega) _), (Ar.nil _ _ _ _ (by omega) _)⟩).mono ?_); rintro e w1 ⟨rfl, ⟨x9, rfl⟩⟩)
  all_goals go_returns
  all_goals exact ⟨rfl, (by repeat' (first | exact Plus.refl _ | refine Plus.alloc ?_ _ | refine Plus.plus ?_ _ | refine Plus.drew ?_ | refine Plus.drewN ?_ _))⟩
set_option maxRecDepth 100000 in
set_option maxHeartbeats 4000000 in
theorem may_2y1 {p q : Int} {g : Bool} {A C : Option Addr} {xs us : List Nat} {n c m d : Nat} {r : Int} {z : Bool} (w : World) (H : Hid (VM w A xs n c C us m d)) (hz : Hid (sameV 2 p q g xs us r 2 0 0 false [] [] r = z)) (hr : r = 1) : Calls Tryz.prog 95 #[Value.agg #[.int .i64 2, .int .i64 p, .int .i64 q, .bool g, .slice A n c, .slice C m d, .int .i64 r]] w fun e w' => e = .returned (.bool z) ∧ Plus w w' := by
  subst hr
  go_enter Tryz.func95, Tryz.ntmps95
  go_wp2_with fail
  go_region
  all_goals go_wp2_with (go_at_call 75; (with_reducible refine (hsame_v hz _ (H.out.plus (by repeat' (first | exact Plus.refl _ | refine Plus.alloc ?_ _ | refine Plus.plus ?_ _ | refine Plus.drew ?_ | refine Plus.drewN ?_ _))) ⟨(Ar.nil _ _ _ _ (by omega) _), (Ar.nil _ _ _ _ (by omega) _)⟩).mono ?_); rintro e w1 ⟨rfl, ⟨x9, rfl⟩⟩)
  all_goals go_returns
  all_goals exact ⟨rfl, (by repeat' (first | exact Plus.refl _ | refine Plus.alloc ?_ _ | refine Plus.plus ?_ _ | refine Plus.drew ?_ | refine Plus.drewN ?_ _))⟩
set_option maxRecDepth 100000 in
set_option maxHeartbeats 4000000 in
theorem may_2n {p q : Int} {g : Bool} {A C : Option Addr} {n c m d : Nat} {r : Int} (w : World) (h0 : (r == 0) = false) (h1 : (r == 1) = false) : Calls Tryz.prog 95 #[Value.agg #[.int .i64 2, .int .i64 p, .int .i64 q, .bool g, .slice A n c, .slice C m d, .int .i64 r]] w fun e w' => e = .returned (.bool false) ∧ Plus w w' := by
  go_enter Tryz.func95, Tryz.ntmps95
  go_wp2_with fail
  go_region
  all_goals go_wp2_with fail
  all_goals go_returns
  all_goals exact ⟨rfl, (by repeat' (first | exact Plus.refl _ | refine Plus.alloc ?_ _ | refine Plus.plus ?_ _ | refine Plus.drew ?_ | refine Plus.drewN ?_ _))⟩
set_option maxRecDepth 100000 in
set_option maxHeartbeats 4000000 in
theorem may_3y {p q : Int} {g : Bool} {A C : Option Addr} {xs us : List Nat} {n c m d : Nat} {r : Int} {z : Bool} (w : World) (H : Hid (VM w A xs n c C us m d)) (hz : Hid (sameV 3 p q g xs us r 3 p q false [] [] 0 = z)) (hm : Hid (mayB p q = true)) : Calls Tryz.prog 95 #[Value.agg #[.int .i64 3, .int .i64 p, .int .i64 q, .bool g, .slice A n c, .slice C m d, .int .i64 r]] w fun e w' => e = .returned (.bool z) ∧ Plus w w' := by
  go_enter Tryz.func95, Tryz.ntmps95
  go_wp2_with fail
  go_region_with (go_at_call 175; (with_reducible refine (nmay_v hm _).mono ?_); rintro e w1 ⟨rfl, ⟨x1, rfl⟩⟩)
  all_goals go_wp2_with (go_at_call 75; (with_reducible refine (hsame_v hz _ (H.out.plus (by repeat' (first | exact Plus.refl _ | refine Plus.alloc ?_ _ | refine Plus.plus ?_ _ | refine Plus.drew ?_ | refine Plus.drewN ?_ _))) ⟨(Ar.nil _ _ _ _ (by omega) _), (Ar.nil _ _ _ _ (by omega) _)⟩).mono ?_); rintro e w1 ⟨rfl, ⟨x9, rfl⟩⟩)
  all_goals go_returns
  all_goals exact ⟨rfl, (by repeat' (first | exact Plus.refl _ | refine Plus.alloc ?_ _ | refine Plus.plus ?_ _ | refine Plus.drew ?_ | refine Plus.drewN ?_ _))⟩
set_option maxRecDepth 100000 in
set_option maxHeartbeats 4000000 in
theorem may_3n {p q : Int} {g : Bool} {A C : Option Addr} {n c m d : Nat} {r : Int} (w : World) (hm : Hid (mayB p q = false)) : Calls Tryz.prog 95 #[Value.agg #[.int .i64 3, .int .i64 p, .int .i64 q, .bool g, .slice A n c, .slice C m d, .int .i64 r]] w fun e w' => e = .returned (.bool false) ∧ Plus w w' := by
  go_enter Tryz.func95, Tryz.ntmps95
  go_wp2_with fail
  go_region_with (go_at_call 175; (with_reducible refine (nmay_v hm _).mono ?_); rintro e w1 ⟨rfl, ⟨x1, rfl⟩⟩)
  all_goals go_wp2_with fail
  all_goals go_returns
  all_goals exact ⟨rfl, (by repeat' (first | exact Plus.refl _ | refine Plus.alloc ?_ _ | refine Plus.plus ?_ _ | refine Plus.drew ?_ | refine Plus.drewN ?_ _))⟩
set_option maxRecDepth 100000 in
set_option maxHeartbeats 4000000 in
theorem may_4y {p q : Int} {g : Bool} {A C : Option Addr} {xs us : List Nat} {n c m d : Nat} {r : Int} {z : Bool} (w : World) (H : Hid (VM w A xs n c C us m d)) (hz : Hid (sameV 4 p q g xs us r 4 0 0 g xs [] 0 = z)) (hf : n ≤ 1048576) (hm : Hid (Bg.mayL g xs = true)) : Calls Tryz.prog 95 #[Value.agg #[.int .i64 4, .int .i64 p, .int .i64 q, .bool g, .slice A n c, .slice C m d, .int .i64 r]] w fun e w' => e = .returned (.bool z) ∧ Plus w w' := by
  go_enter Tryz.func95, Tryz.ntmps95
  go_wp2_with fail
  go_region_with (go_at_call 176; (with_reducible refine (bmay_v hm _ (arg_ar (H.out.b.plus (by repeat' (first | exact Plus.refl _ | refine Plus.alloc ?_ _ | refine Plus.plus ?_ _ | refine Plus.drew ?_ | refine Plus.drewN ?_ _))) hf)).mono ?_); rintro e w1 ⟨rfl, ⟨x1, rfl⟩⟩)
  all_goals go_wp2_with (go_at_call 75; (with_reducible refine (hsame_v hz _ (H.out.plus (by repeat' (first | exact Plus.refl _ | refine Plus.alloc ?_ _ | refine Plus.plus ?_ _ | refine Plus.drew ?_ | refine Plus.drewN ?_ _))) ⟨(H.out.b.plus (by repeat' (first | exact Plus.refl _ | refine Plus.alloc ?_ _ | refine Plus.plus ?_ _ | refine Plus.drew ?_ | refine Plus.drewN ?_ _))), (Ar.nil _ _ _ _ (by omega) _)⟩).mono ?_); rintro e w1 ⟨rfl, ⟨x9, rfl⟩⟩)
  all_goals go_returns
  all_goals exact ⟨rfl, (by repeat' (first | exact Plus.refl _ | refine Plus.alloc ?_ _ | refine Plus.plus ?_ _ | refine Plus.drew ?_ | refine Plus.drewN ?_ _))⟩
set_option maxRecDepth 100000 in
set_option maxHeartbeats 4000000 in
theorem may_4n {p q : Int} {g : Bool} {A C : Option Addr} {xs us : List Nat} {n c m d : Nat} {r : Int} (w : World) (H : Hid (VM w A xs n c C us m d)) (hf : n ≤ 1048576) (hm : Hid (Bg.mayL g xs = false)) : Calls Tryz.prog 95 #[Value.agg #[.int .i64 4, .int .i64 p, .int .i64 q, .bool g, .slice A n c, .slice C m d, .int .i64 r]] w fun e w' => e = .returned (.bool false) ∧ Plus w w' := by
  go_enter Tryz.func95, Tryz.ntmps95
  go_wp2_with fail
  go_region_with (go_at_call 176; (with_reducible refine (bmay_v hm _ (arg_ar (H.out.b.plus (by repeat' (first | exact Plus.refl _ | refine Plus.alloc ?_ _ | refine Plus.plus ?_ _ | refine Plus.drew ?_ | refine Plus.drewN ?_ _))) hf)).mono ?_); rintro e w1 ⟨rfl, ⟨x1, rfl⟩⟩)
  all_goals go_wp2_with fail
  all_goals go_returns
  all_goals exact ⟨rfl, (by repeat' (first | exact Plus.refl _ | refine Plus.alloc ?_ _ | refine Plus.plus ?_ _ | refine Plus.drew ?_ | refine Plus.drewN ?_ _))⟩
set_option maxRecDepth 100000 in
set_option maxHeartbeats 4000000 in
theorem may_5y {p q : Int} {g : Bool} {A C : Option Addr} {xs us : List Nat} {n c m d : Nat} {r : Int} {z : Bool} (w : World) (H : Hid (VM w A xs n c C us m d)) (hz : Hid (sameV 5 p q g xs us r 5 0 0 false [] us 0 = z)) (hm : m ≤ 4096) : Calls Tryz.prog 95 #[Value.agg #[.int .i64 5, .int .i64 p, .int .i64 q, .bool g, .slice A n c, .slice C m d, .int .i64 r]] w fun e w' => e = .returned (.bool z) ∧ Plus w w' := by
  go_enter Tryz.func95, Tryz.ntmps95
  go_wp2_with fail
  go_region
  all_goals go_wp2_with (go_at_call 75; (with_reducible refine (hsame_v hz _ (H.out.plus (by repeat' (first | exact Plus.refl _ | refine Plus.alloc ?_ _ | refine Plus.plus ?_ _ | refine Plus.drew ?_ | refine Plus.drewN ?_ _))) ⟨(Ar.nil _ _ _ _ (by omega) _), (H.out.s.plus (by repeat' (first | exact Plus.refl _ | refine Plus.alloc ?_ _ | refine Plus.plus ?_ _ | refine Plus.drew ?_ | refine Plus.drewN ?_ _)))⟩).mono ?_); rintro e w1 ⟨rfl, ⟨x9, rfl⟩⟩)
  all_goals go_returns
  all_goals exact ⟨rfl, (by repeat' (first | exact Plus.refl _ | refine Plus.alloc ?_ _ | refine Plus.plus ?_ _ | refine Plus.drew ?_ | refine Plus.drewN ?_ _))⟩
set_option maxRecDepth 100000 in
set_option maxHeartbeats 4000000 in
theorem may_5n {p q : Int} {g : Bool} {A C : Option Addr} {n c m d : Nat} {r : Int} (w : World) (hm : ¬ m ≤ 4096) : Calls Tryz.prog 95 #[Value.agg #[.int .i64 5, .int .i64 p, .int .i64 q, .bool g, .slice A n c, .slice C m d, .int .i64 r]] w fun e w' => e = .returned (.bool false) ∧ Plus w w' := by
  go_enter Tryz.func95, Tryz.ntmps95
  go_wp2_with fail
  go_region
  all_goals go_wp2_with fail
  all_goals go_returns
  all_goals exact ⟨rfl, (by repeat' (first | exact Plus.refl _ | refine Plus.alloc ?_ _ | refine Plus.plus ?_ _ | refine Plus.drew ?_ | refine Plus.drewN ?_ _))⟩
set_option maxRecDepth 100000 in
set_option maxHeartbeats 4000000 in
theorem may_6y {p q : Int} {g : Bool} {A C : Option Addr} {xs us : List Nat} {n c m d : Nat} {r : Int} {z : Bool} (w : World) (H : Hid (VM w A xs n c C us m d)) (hz : Hid (sameV 6 p q g xs us r 6 0 0 false [] [] r = z)) (hm : 0 ≤ r) : Calls Tryz.prog 95 #[Value.agg #[.int .i64 6, .int .i64 p, .int .i64 q, .bool g, .slice A n c, .slice C m d, .int .i64 r]] w fun e w' => e = .returned (.bool z) ∧ Plus w w' := by
  go_enter Tryz.func95, Tryz.ntmps95
  go_wp2_with fail
  go_region
  all_goals go_wp2_with (go_at_call 75; (with_reducible refine (hsame_v hz _ (H.out.plus (by repeat' (first | exact Plus.refl _ | refine Plus.alloc ?_ _ | refine Plus.plus ?_ _ | refine Plus.drew ?_ | refine Plus.drewN ?_ _))) ⟨(Ar.nil _ _ _ _ (by omega) _), (Ar.nil _ _ _ _ (by omega) _)⟩).mono ?_); rintro e w1 ⟨rfl, ⟨x9, rfl⟩⟩)
  all_goals go_returns
  all_goals exact ⟨rfl, (by repeat' (first | exact Plus.refl _ | refine Plus.alloc ?_ _ | refine Plus.plus ?_ _ | refine Plus.drew ?_ | refine Plus.drewN ?_ _))⟩
set_option maxRecDepth 100000 in
set_option maxHeartbeats 4000000 in
theorem may_6n {p q : Int} {g : Bool} {A C : Option Addr} {n c m d : Nat} {r : Int} (w : World) (hm : ¬ 0 ≤ r) : Calls Tryz.prog 95 #[Value.agg #[.int .i64 6, .int .i64 p, .int .i64 q, .bool g, .slice A n c, .slice C m d, .int .i64 r]] w fun e w' => e = .returned (.bool false) ∧ Plus w w' := by
  go_enter Tryz.func95, Tryz.ntmps95
  go_wp2_with fail
  go_region
  all_goals go_wp2_with fail
  all_goals go_returns
  all_goals exact ⟨rfl, (by repeat' (first | exact Plus.refl _ | refine Plus.alloc ?_ _ | refine Plus.plus ?_ _ | refine Plus.drew ?_ | refine Plus.drewN ?_ _))⟩
set_option maxRecDepth 100000 in
set_option maxHeartbeats 4000000 in
theorem may_o {k p q : Int} {g : Bool} {A C : Option Addr} {n c m d : Nat} {r : Int} (w : World) (b0 : (k == 0) = false) (b1 : (k == 1) = false) (b2 : (k == 2) = false) (b3 : (k == 3) = false) (b4 : (k == 4) = false) (b5 : (k == 5) = false) (b6 : (k == 6) = false) :
    Calls Tryz.prog 95 #[Value.agg #[.int .i64 k, .int .i64 p, .int .i64 q, .bool g, .slice A n c, .slice C m d, .int .i64 r]] w fun e w' => e = .returned (.bool false) ∧ Plus w w' := by
  go_enter Tryz.func95, Tryz.ntmps95
  go_wp2_with fail
  go_returns
  exact ⟨rfl, (by repeat' (first | exact Plus.refl _ | refine Plus.alloc ?_ _ | refine Plus.plus ?_ _ | refine Plus.drew ?_ | refine Plus.drewN ?_ _))⟩
end Go.Proofs.YtakahpbondaidaaGreatDoor
namespace Go.Proofs.YtakahpbondaidaaGreatDoor
open Go.RowKit

/-- Is a value as it must be? -/
def mayV (k p q : Int) (g : Bool) (xs us : List Nat) (r : Int) : Bool := decide (
  ((k = 0 ∨ k = 1) ∧ p = 0 ∧ q = 0 ∧ g = false ∧ xs = [] ∧ us = [] ∧ r = 0) ∨
  (k = 2 ∧ p = 0 ∧ q = 0 ∧ g = false ∧ xs = [] ∧ us = [] ∧ (r = 0 ∨ r = 1)) ∨
  (k = 3 ∧ mayB p q = true ∧ g = false ∧ xs = [] ∧ us = [] ∧ r = 0) ∨
  (k = 4 ∧ p = 0 ∧ q = 0 ∧ Bg.mayL g xs = true ∧ us = [] ∧ r = 0) ∨
  (k = 5 ∧ p = 0 ∧ q = 0 ∧ g = false ∧ xs = [] ∧ us.length ≤ 4096 ∧ r = 0) ∨
  (k = 6 ∧ p = 0 ∧ q = 0 ∧ g = false ∧ xs = [] ∧ us = [] ∧ 0 ≤ r))
set_option maxRecDepth 100000 in
theorem hmay_c (k p q : Int) (g : Bool) (A C : Option Addr) (xs us : List Nat) (n c m d : Nat) (r : Int) (w : World) (h : VM w A xs n c C us m d) (hf : n ≤ 1048576) : Calls Tryz.prog 95 #[Value.agg #[.int .i64 k, .int .i64 p, .int .i64 q, .bool g, .slice A n c, .slice C m d, .int .i64 r]] w fun e w' => e = .returned (.bool (mayV k p q g xs us r)) ∧ Plus w w' := by
  have hm : m = us.length := h.s.len
  by_cases k0 : k = 0
  · subst k0
    exact may_0y w (Lib.hid h) (Lib.hid (by unfold sameV mayV; simp))
  by_cases k1 : k = 1
  · subst k1
    exact may_1y w (Lib.hid h) (Lib.hid (by unfold sameV mayV; simp))
  by_cases k2 : k = 2
  · subst k2
    by_cases r0 : r = 0
    · exact may_2y0 w (Lib.hid h) (Lib.hid (by unfold sameV mayV; simp [r0])) r0
    · by_cases r1 : r = 1
      · exact may_2y1 w (Lib.hid h) (Lib.hid (by unfold sameV mayV; simp [r1])) r1
      · rw [show mayV 2 p q g xs us r = false by unfold mayV; simp [r0, r1]]
        exact may_2n w (beq_f r0) (beq_f r1)
  by_cases k3 : k = 3
  · subst k3
    by_cases hb : mayB p q = true
    · exact may_3y w (Lib.hid h) (Lib.hid (by unfold sameV mayV; simp [hb])) (Lib.hid hb)
    · rw [show mayV 3 p q g xs us r = false by unfold mayV; simp [hb]]
      exact may_3n w (Lib.hid (by simpa using hb))
  by_cases k4 : k = 4
  · subst k4
    by_cases hb : Bg.mayL g xs = true
    · exact may_4y w (Lib.hid h) (Lib.hid (by unfold sameV mayV; simp [hb])) hf (Lib.hid hb)
    · rw [show mayV 4 p q g xs us r = false by unfold mayV; simp [hb]]
      exact may_4n w (Lib.hid h) hf (Lib.hid (by simpa using hb))
  by_cases k5 : k = 5
  · subst k5
    by_cases hb : m ≤ 4096
    · exact may_5y w (Lib.hid h) (Lib.hid (by unfold sameV mayV; rw [hm] at hb; simp [hb])) hb
    · rw [show mayV 5 p q g xs us r = false by unfold mayV; rw [hm] at hb; simp [hb]]
      exact may_5n w hb
  by_cases k6 : k = 6
  · subst k6
    by_cases hb : 0 ≤ r
    · exact may_6y w (Lib.hid h) (Lib.hid (by unfold sameV mayV; simp [hb])) hb
    · rw [show mayV 6 p q g xs us r = false by unfold mayV; simp [hb]]
      exact may_6n w hb
  · rw [show mayV k p q g xs us r = false by unfold mayV; simp [k0, k1, k2, k3, k4, k5, k6]]
    exact may_o w (beq_f k0) (beq_f k1) (beq_f k2) (beq_f k3) (beq_f k4) (beq_f k5) (beq_f k6)
theorem hmay_v {k p q : Int} {g : Bool} {A C : Option Addr} {xs us : List Nat} {n c m d : Nat} {r : Int} {z : Bool} (hz : Hid (mayV k p q g xs us r = z)) (w : World) (h : VM w A xs n c C us m d) (hf : n ≤ 1048576) : Calls Tryz.prog 95 #[Value.agg #[.int .i64 k, .int .i64 p, .int .i64 q, .bool g, .slice A n c, .slice C m d, .int .i64 r]] w fun e w' => e = .returned (.bool z) ∧ Plus w w' := by
  rw [← hz.out]
  exact hmay_c _ _ _ _ _ _ _ _ _ _ _ _ _ w h hf
def nilV : Value := .agg #[.int .i64 0, .int .i64 0, .int .i64 0, .bool false, .slice none 0 0, .slice none 0 0, .int .i64 0]
set_option maxRecDepth 100000 in
set_option maxHeartbeats 4000000 in
theorem valid_y {k p q : Int} {g : Bool} {A C : Option Addr} {xs us : List Nat} {n c m d : Nat} {r : Int} (hz : Hid (mayV k p q g xs us r = true)) (w : World) (H : Hid (VM w A xs n c C us m d)) (hf : n ≤ 1048576) : Calls Tryz.prog 43 #[Value.agg #[.int .i64 k, .int .i64 p, .int .i64 q, .bool g, .slice A n c, .slice C m d, .int .i64 r]] w fun e w' => e = .returned (Value.agg #[.int .i64 k, .int .i64 p, .int .i64 q, .bool g, .slice A n c, .slice C m d, .int .i64 r]) ∧ Plus w w' := by
  go_enter Tryz.func43, Tryz.ntmps43
  go_wp2_with (go_at_call 95; (with_reducible refine (hmay_v hz _ (H.out.plus (by repeat' (first | exact Plus.refl _ | refine Plus.alloc ?_ _ | refine Plus.plus ?_ _ | refine Plus.drew ?_ | refine Plus.drewN ?_ _))) hf).mono ?_); rintro e w1 ⟨rfl, ⟨x1, rfl⟩⟩)
  go_returns
  exact ⟨rfl, (by repeat' (first | exact Plus.refl _ | refine Plus.alloc ?_ _ | refine Plus.plus ?_ _ | refine Plus.drew ?_ | refine Plus.drewN ?_ _))⟩
set_option maxRecDepth 100000 in
set_option maxHeartbeats 4000000 in
theorem valid_n {k p q : Int} {g : Bool} {A C : Option Addr} {xs us : List Nat} {n c m d : Nat} {r : Int} (hz : Hid (mayV k p q g xs us r = false)) (w : World) (H : Hid (VM w A xs n c C us m d)) (hf : n ≤ 1048576) : Calls Tryz.prog 43 #[Value.agg #[.int .i64 k, .int .i64 p, .int .i64 q, .bool g, .slice A n c, .slice C m d, .int .i64 r]] w fun e w' => e = .returned nilV ∧ Plus w w' := by
  go_enter Tryz.func43, Tryz.ntmps43
  go_wp2_with (go_at_call 95; (with_reducible refine (hmay_v hz _ (H.out.plus (by repeat' (first | exact Plus.refl _ | refine Plus.alloc ?_ _ | refine Plus.plus ?_ _ | refine Plus.drew ?_ | refine Plus.drewN ?_ _))) hf).mono ?_); rintro e w1 ⟨rfl, ⟨x1, rfl⟩⟩)
  go_returns
  exact ⟨rfl, (by repeat' (first | exact Plus.refl _ | refine Plus.alloc ?_ _ | refine Plus.plus ?_ _ | refine Plus.drew ?_ | refine Plus.drewN ?_ _))⟩
/-- Valid values, plainly. -/
inductive JV where
  | undef
  | null
  | bool (b : Bool)
  | num (p q : Int)
  | big (z : Int)
  | text (us : List Nat)
  | obj (r : Int)

def bit (b : Bool) : Int := if b then 1 else 0
/-- The value v lies in memory as the valid one x. -/
def NV (w : World) (v : Value) : JV → Prop
  | .undef => ∃ (A C : Option Addr) (c d : Nat), v = .agg #[.int .i64 0, .int .i64 0, .int .i64 0, .bool false, .slice A 0 c, .slice C 0 d, .int .i64 0] ∧ c ≤ 9223372036854775807 ∧ d ≤ 9223372036854775807
  | .null => ∃ (A C : Option Addr) (c d : Nat), v = .agg #[.int .i64 1, .int .i64 0, .int .i64 0, .bool false, .slice A 0 c, .slice C 0 d, .int .i64 0] ∧ c ≤ 9223372036854775807 ∧ d ≤ 9223372036854775807
  | .bool b => ∃ (A C : Option Addr) (c d : Nat), v = .agg #[.int .i64 2, .int .i64 0, .int .i64 0, .bool false, .slice A 0 c, .slice C 0 d, .int .i64 (bit b)] ∧ c ≤ 9223372036854775807 ∧ d ≤ 9223372036854775807
  | .num p q => ∃ (A C : Option Addr) (c d : Nat), v = .agg #[.int .i64 3, .int .i64 p, .int .i64 q, .bool false, .slice A 0 c, .slice C 0 d, .int .i64 0] ∧ c ≤ 9223372036854775807 ∧ d ≤ 9223372036854775807 ∧ IsV p q
  | .big z => ∃ (g : Bool) (A C : Option Addr) (xs : List Nat) (n c d : Nat), v = .agg #[.int .i64 4, .int .i64 0, .int .i64 0, .bool g, .slice A n c, .slice C 0 d, .int .i64 0] ∧ d ≤ 9223372036854775807 ∧ Bg.mayL g xs = true ∧ Bg.bigI g xs = z ∧ Bg.Arg w A xs n c
  | .text us => ∃ (A C : Option Addr) (c m d : Nat), v = .agg #[.int .i64 5, .int .i64 0, .int .i64 0, .bool false, .slice A 0 c, .slice C m d, .int .i64 0] ∧ c ≤ 9223372036854775807 ∧ us.length ≤ 4096 ∧ Ar .u16 65536 w C us m d
  | .obj r => ∃ (A C : Option Addr) (c d : Nat), v = .agg #[.int .i64 6, .int .i64 0, .int .i64 0, .bool false, .slice A 0 c, .slice C 0 d, .int .i64 r] ∧ c ≤ 9223372036854775807 ∧ d ≤ 9223372036854775807 ∧ 0 ≤ r
/-- conv.valid makes v' of v. -/
def Vld (w : World) (v v' : Value) : Prop := ∀ w1, Plus w w1 → Calls Tryz.prog 43 #[v] w1 fun e w2 => e = .returned v' ∧ Plus w1 w2
theorem Vld.plus {w w' : World} {v v' : Value} (h : Vld w v v') (hp : Plus w w') : Vld w' v v' := fun _ h1 => h _ (hp.trans h1)
theorem NV.plus {w w' : World} {v : Value} {x : JV} (h : NV w v x) (hp : Plus w w') : NV w' v x := by
  cases x with
  | big z => obtain ⟨g, A, C, xs, n, c, d, e, h1, h2, h3, h4⟩ := h; exact ⟨g, A, C, xs, n, c, d, e, h1, h2, h3, h4.plus hp⟩
  | text us => obtain ⟨A, C, c, m, d, e, h1, h2, h3⟩ := h; exact ⟨A, C, c, m, d, e, h1, h2, h3.plus hp⟩
  | _ => exact h
/-- What valid makes of a value. -/
def jv (k p q : Int) (g : Bool) (xs us : List Nat) (r : Int) : JV :=
  if mayV k p q g xs us r = true then (if k = 0 then .undef else if k = 1 then .null else if k = 2 then .bool (r == 1) else if k = 3 then .num p q else if k = 4 then .big (Bg.bigI g xs) else if k = 5 then .text us else .obj r) else .undef
theorem isV_of_mayB {p q : Int} (h : mayB p q = true) : IsV p q := by
  have := isV_v p q
  unfold vk vn at this
  rwa [if_pos h, if_pos h] at this
theorem mayB_isV {p q : Int} (h : IsV p q) : mayB p q = true := mayB_of_isV h
end Go.Proofs.YtakahpbondaidaaGreatDoor
