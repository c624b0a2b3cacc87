/- A slice stands though a box turns; unsigned, hasOnly, bigOfDigits, cloned. -/
import Derived.Test.YtakahpbondaidaaGreatDoorPZK
import Derived.Test.YtakahpbondaidaaGreatDoorPZH
import Derived.Test.YtakahpbondaidaaGreatDoorPZE
namespace Go.Proofs.YtakahpbondaidaaGreatDoor
open Go.RowKit

/-- Two worlds that differ in blocks that hold no cell of kind k. -/
def NoK (k : IntKind) (o : Obj) : Prop := ∃ cs e z, o = .cells cs e z ∧ ∀ v ∈ cs, ∀ y, v ≠ .int k y
def Off (k : IntKind) (W1 W2 : World) : Prop := W1.heap.size = W2.heap.size ∧ ∀ b : Nat, W2.heap[b]? = W1.heap[b]? ∨ ∃ o, W1.heap[b]? = some o ∧ NoK k o
theorem Off.refl (k : IntKind) (w : World) : Off k w w := ⟨rfl, fun _ => .inl rfl⟩
theorem Off.allocN {k : IntKind} {W1 W2 : World} {o o' : Obj} (h : Off k W1 W2) (ho : NoK k o) : Off k (W1.alloc o) (W2.alloc o') := by
  refine ⟨by rw [World.size_alloc, World.size_alloc, h.1], fun b => ?_⟩
  simp only [World.alloc, Array.getElem?_push, h.1]
  by_cases hb : b = W2.heap.size
  · rw [if_pos hb, if_pos hb]; exact .inr ⟨o, rfl, ho⟩
  · rw [if_neg hb, if_neg hb]; exact h.2 b
theorem Off.alloc {k : IntKind} {W1 W2 : World} (h : Off k W1 W2) (o : Obj) : Off k (W1.alloc o) (W2.alloc o) := by
  refine ⟨by rw [World.size_alloc, World.size_alloc, h.1], fun b => ?_⟩
  simp only [World.alloc, Array.getElem?_push, h.1]
  by_cases hb : b = W2.heap.size
  · rw [if_pos hb, if_pos hb]; exact .inl rfl
  · rw [if_neg hb, if_neg hb]; exact h.2 b
theorem Off.plus {k : IntKind} {W1 W2 : World} (h : Off k W1 W2) (x : More) : Off k (_root_.Go.Proofs.YtakahpbondaidaaGreatDoor.plus W1 x) (_root_.Go.Proofs.YtakahpbondaidaaGreatDoor.plus W2 x) := by
  refine ⟨by rw [size_plus, size_plus, h.1], fun b => ?_⟩
  simp only [_root_.Go.Proofs.YtakahpbondaidaaGreatDoor.plus]
  by_cases hb : b < W1.heap.size
  · rw [Array.getElem?_append_left hb, Array.getElem?_append_left (by rw [← h.1]; exact hb)]; exact h.2 b
  · have h1 := h.1
    rw [Array.getElem?_append_right (by omega), Array.getElem?_append_right (by omega), h1]; exact .inl rfl
theorem Off.drew {k : IntKind} {W1 W2 : World} (h : Off k W1 W2) : Off k W1.drew W2.drew := h
theorem Rd.off {k : IntKind} {W1 W2 : World} {A : Option Addr} {xs : List Nat} (h : Rd k W1 A xs) (o : Off k W1 W2) : Rd k W2 A xs := fun h0 => by
  obtain ⟨g, p, rfl, hg, ha⟩ := h h0
  refine ⟨g, p, rfl, by rw [← o.1]; exact hg, fun j hj => ?_⟩
  rcases o.2 g with e | ⟨ob, hob, cs, t, z, rfl, hc⟩
  · rw [World.cell?_of_block (w := W1) e]; exact ha j hj
  · exfalso
    have q := ha j hj
    rw [cell_of_row W1 g (p + j) cs t z hob] at q
    exact hc _ (Array.mem_of_getElem? q) _ rfl
theorem Ar.off {k : IntKind} {K : Nat} {W1 W2 : World} {A : Option Addr} {xs : List Nat} {n c : Nat} (h : Ar k K W1 A xs n c) (o : Off k W1 W2) : Ar k K W2 A xs n c := ⟨h.rd.off o, h.len, h.cap, h.max, h.bd⟩
theorem arg_off {W1 W2 : World} {A : Option Addr} {xs : List Nat} {n c : Nat} (h : Bg.Arg W1 A xs n c) (o : Off .u32 W1 W2) : Bg.Arg W2 A xs n c :=
  ⟨⟨h.lim.1, (lim_rd ((rd_lim h.lim).off o) h.lim.1).2⟩, h.len, h.few, h.cap, h.max⟩
theorem noB (b : Bool) (A : Option Addr) (n c : Nat) (e : TypeId) : NoK .u32 (.cells #[.bool b, .slice A n c] e) := ⟨_, _, _, rfl, by simp⟩
theorem noV (k p q : Int) (g : Bool) (A C : Option Addr) (n c m d : Nat) (r : Int) (e : TypeId) : NoK .u32 (.cells #[.int .i64 k, .int .i64 p, .int .i64 q, .bool g, .slice A n c, .slice C m d, .int .i64 r] e) := ⟨_, _, _, rfl, by simp⟩
theorem clone32_n {A : Option Addr} {xs : List Nat} {n c : Nat} (w : World) (h : Bg.Arg w A xs n c) : Calls Tryz.prog 102 #[.slice A n c] w fun e w' => ∃ (D : Option Addr) (k : Nat), e = .returned (.slice D n k) ∧ Bg.Arg w' D xs n k ∧ Plus w w' := by
  refine (Bg.clone_c A xs n c w h.lim h.len h.few).mono ?_
  rintro e w' ⟨v, rfl, ho, hb⟩
  obtain ⟨D, k, rfl, h1, h2, h3⟩ := rd_of_own (k := .u32) ho
  have hn := h.len
  subst hn
  exact ⟨D, k, rfl, ⟨lim_rd h3 h.lim.1, rfl, h.few, h1, h2⟩, Plus.of_below hb⟩
set_option maxRecDepth 100000 in
set_option maxHeartbeats 4000000 in
theorem cloned_v {g : Bool} {A : Option Addr} {xs : List Nat} {n c : Nat} (w : World) (h : Hid (Bg.Arg w A xs n c)) : Calls Tryz.prog 48 #[.agg #[.bool g, .slice A n c]] w fun e w' => ∃ (D : Option Addr) (k : Nat), e = .returned (.agg #[.bool g, .slice D n k]) ∧ Bg.Arg w' D xs n k ∧ Plus w w' := by
  go_enter Tryz.func48, Tryz.ntmps48
  go_wp2_with fail
  go_region_with (go_at_call 102; (with_reducible refine (clone32_n _ (h.out.plus (by repeat' (first | exact Plus.refl _ | refine Plus.alloc ?_ _ | refine Plus.plus ?_ _ | refine Plus.drew ?_ | refine Plus.drewN ?_ _)))).mono ?_); rintro e w1 ⟨D, k, rfl, hD, ⟨x1, rfl⟩⟩; have HD := Lib.hid hD; clear hD)
  all_goals go_wp2_with fail
  all_goals go_returns
  all_goals
    have q := HD.out
    (try simp only [plus_drew] at q)
    exact ⟨D, k, rfl, arg_off q (by repeat' (first | exact Off.refl _ _ | refine Off.plus ?_ _ | refine Off.alloc ?_ _ | exact Off.allocN (Off.refl _ _) (noB _ _ _ _ _) | exact Off.allocN (Off.refl _ _) (noV _ _ _ _ _ _ _ _ _ _ _ _) | refine Off.allocN ?_ (noB _ _ _ _ _) | refine Off.allocN ?_ (noV _ _ _ _ _ _ _ _ _ _ _ _) | refine Off.drew ?_)), (by repeat' (first | exact Plus.refl _ | refine Plus.alloc ?_ _ | refine Plus.plus ?_ _ | refine Plus.drew ?_ | refine Plus.drewN ?_ _))⟩
end Go.Proofs.YtakahpbondaidaaGreatDoor
namespace Go.Proofs.YtakahpbondaidaaGreatDoor
open Go.RowKit

theorem par_lt (l : List UInt8) : (Bg.parI l).natAbs < Bg.B ^ 8 := by
  have hB : 0 < Bg.B ^ 8 := by rw [Bg.B_eq]; decide
  unfold Bg.parI
  cases hr : Bg.rd l with
  | form => simpa using hB
  | long => simpa using hB
  | is n =>
    simp only
    unfold Bg.rd at hr
    simp only at hr
    generalize (if (l.head? == some 45) = true then l.tail else l) = d at hr
    by_cases h1 : Bg.isCnt d = false ∨ (l.head? == some 45) = true ∧ d = [48]
    · rw [if_pos h1] at hr; cases hr
    · rw [if_neg h1] at hr
      by_cases h2 : Bg.B ^ 8 ≤ Bg.num d
      · rw [if_pos h2] at hr; cases hr
      · rw [if_neg h2] at hr
        injection hr with hr
        subst hr
        split <;> omega
end Go.Proofs.YtakahpbondaidaaGreatDoor
namespace Go.Proofs.YtakahpbondaidaaGreatDoor
open Go.RowKit
theorem cloned_h {g : Bool} {A : Option Addr} {xs : List Nat} {n c : Nat} (w : World) (h : Bg.Arg w A xs n c) : Calls Tryz.prog 48 #[.agg #[.bool g, .slice A n c]] w fun e w' => ∃ (D : Option Addr) (k : Nat), e = .returned (.agg #[.bool g, .slice D n k]) ∧ Bg.Arg w' D xs n k ∧ Plus w w' := cloned_v w (Lib.hid h)

set_option maxRecDepth 100000 in
set_option maxHeartbeats 1000000 in
theorem refLimbs_c (A C : Option Addr) (xs ys : List Nat) (n c m d : Nat) (w : World) (ha : Ar .u32 4294967296 w A xs n c) (hb : Ar .u32 4294967296 w C ys m d) :
    Calls Tryz.prog 56 #[.slice A n c, .slice C m d] w fun e w' => e = .returned (.bool (decide (xs = ys))) ∧ Plus w w' := by
  obtain ⟨hrd, hlen, hcap, hmax, hbd⟩ := ha
  obtain ⟨krd, klen, kcap, kmax, kbd⟩ := hb
  subst hlen klen
  by_cases hl : xs.length = ys.length
  · have b1 : ((xs.length : Int) != (ys.length : Int)) = false := by simp [hl]
    have HL := Lib.hid hl
    clear hl
    go_enter Tryz.func56, Tryz.ntmps56
    go_wp2
    go_loopw [5] (fun s13 wr => EqRel5 xs ys s13 ∧ Plus w wr) (fun s13 _ => ((xs.length : Int) - intOf s13).toNat)
    case atStart => exact ⟨⟨0, by omega, rfl, rfl⟩, Plus.refl _⟩
    case round =>
      obtain ⟨⟨k, hk, rfl, he⟩, hp⟩ := hrel
      by_cases hlt : k < xs.length
      · obtain ⟨g, o, rfl, hg, hat⟩ := hrd.at_ hlt
        have hlt2 : k < ys.length := by rw [← HL.out]; exact hlt
        obtain ⟨g2, o2, rfl, hg2, hat2⟩ := krd.at_ hlt2
        have hcell := hat.plus hg hp k hlt
        have hcell2 := hat2.plus hg2 hp k hlt2
        have hadd := add_addr g o k
        have hadd2 := add_addr g2 o2 k
        have HE := Lib.hid he
        have HP := Lib.hid hp
        clear he hat hat2 hp
        obtain ⟨v, hv⟩ : ∃ v, xs.getD k 0 = v := ⟨_, rfl⟩
        obtain ⟨u, hu⟩ : ∃ u, ys.getD k 0 = u := ⟨_, rfl⟩
        rw [hv] at hcell
        rw [hu] at hcell2
        have HV := Lib.hid hv
        have HU := Lib.hid hu
        clear hv hu
        by_cases hvu : v = u
        · subst hvu
          have HT := Lib.hid (take_ext HE.out hlt hlt2 (by rw [HV.out, HU.out]))
          go_wp2_with fail
          go_quiet (fail)
          go_wp2_with fail
          go_roundw
          case rel => exact ⟨⟨k + 1, hlt, by rw [show ((k + 1 : Nat) : Int) = (k : Int) + 1 by omega], HT.out⟩, HP.out.drewN _⟩
          case measure => simp [intOf]; omega
        · have b2 : ((v : Int) != (u : Int)) = true := by simp; omega
          have HN : Hid (decide (xs = ys) = false) := Lib.hid (by simp; intro e; subst e; exact hvu (HV.out.symm.trans HU.out))
          go_wp2_with fail
          go_quiet (fail)
          go_wp2_with fail
          go_ret
          exact ⟨by rw [HN.out]; rfl, HP.out.drewN _⟩
      · obtain rfl : k = xs.length := by omega
        have HR : Hid (decide (xs = ys) = true) := Lib.hid (by
          rw [List.take_length, HL.out, List.take_length] at he
          simpa using he)
        have HP := Lib.hid hp
        clear he hp
        go_wp2_with fail
        go_ret
        exact ⟨by rw [HR.out]; rfl, HP.out⟩
  · have b1 : ((xs.length : Int) != (ys.length : Int)) = true := by simp; omega
    have HN : Hid (decide (xs = ys) = false) := Lib.hid (by simp; intro e; subst e; exact hl rfl)
    go_enter Tryz.func56, Tryz.ntmps56
    go_wp2
    go_ret
    exact ⟨by rw [HN.out]; rfl, Plus.refl _⟩


def SelfL (xs : List Nat) : Prop := decide (xs = xs) = true
theorem selfL (xs : List Nat) : SelfL xs := by unfold SelfL; simp
theorem rlimbs_s {A C : Option Addr} {xs : List Nat} {n c m d : Nat} (h : SelfL xs) (w : World) (ha : Bg.Arg w A xs n c) (hb : Bg.Arg w C xs m d) :
    Calls Tryz.prog 56 #[.slice A n c, .slice C m d] w fun e w' => e = .returned (.bool true) ∧ Plus w w' := by
  have := refLimbs_c A C xs xs n c m d w (ar_arg ha) (ar_arg hb)
  rw [h] at this
  exact this
set_option maxRecDepth 100000 in
set_option maxHeartbeats 4000000 in
theorem rbig_s {g : Bool} {A C : Option Addr} {xs : List Nat} {n c m d : Nat} (h : SelfL xs) (w : World) (ha : Hid (Bg.Arg w A xs n c)) (hb : Hid (Bg.Arg w C xs m d)) :
    Calls Tryz.prog 18 #[.agg #[.bool g, .slice A n c], .agg #[.bool g, .slice C m d]] w fun e w' => e = .returned (.bool true) ∧ Plus w w' := by
  cases g
  · go_enter Tryz.func18, Tryz.ntmps18
    go_wp2_with (go_at_call 56; (with_reducible refine (rlimbs_s h _ (ha.out.plus (by repeat' (first | exact Plus.refl _ | refine Plus.alloc ?_ _ | refine Plus.plus ?_ _ | refine Plus.drew ?_ | refine Plus.drewN ?_ _))) (hb.out.plus (by repeat' (first | exact Plus.refl _ | refine Plus.alloc ?_ _ | refine Plus.plus ?_ _ | refine Plus.drew ?_ | refine Plus.drewN ?_ _)))).mono ?_); rintro e w1 ⟨rfl, ⟨x1, rfl⟩⟩)
    go_returns
    exact ⟨rfl, (by repeat' (first | exact Plus.refl _ | refine Plus.alloc ?_ _ | refine Plus.plus ?_ _ | refine Plus.drew ?_ | refine Plus.drewN ?_ _))⟩
  · go_enter Tryz.func18, Tryz.ntmps18
    go_wp2_with (go_at_call 56; (with_reducible refine (rlimbs_s h _ (ha.out.plus (by repeat' (first | exact Plus.refl _ | refine Plus.alloc ?_ _ | refine Plus.plus ?_ _ | refine Plus.drew ?_ | refine Plus.drewN ?_ _))) (hb.out.plus (by repeat' (first | exact Plus.refl _ | refine Plus.alloc ?_ _ | refine Plus.plus ?_ _ | refine Plus.drew ?_ | refine Plus.drewN ?_ _)))).mono ?_); rintro e w1 ⟨rfl, ⟨x1, rfl⟩⟩)
    go_returns
    exact ⟨rfl, (by repeat' (first | exact Plus.refl _ | refine Plus.alloc ?_ _ | refine Plus.plus ?_ _ | refine Plus.drew ?_ | refine Plus.drewN ?_ _))⟩
set_option maxRecDepth 100000 in
set_option maxHeartbeats 4000000 in
theorem numeric_y {k p q : Int} {g : Bool} {A C : Option Addr} {n c m d : Nat} {r : Int} {k2 p2 q2 : Int} {g2 : Bool} {A2 C2 : Option Addr} {n2 c2 m2 d2 : Nat} {r2 : Int} {x : JV} {a b : Int} (hJ : Hid (numJ x = ⟨a, b, 0⟩)) (w : World) (hL : Hid (Lai w)) (hv : Hid (Vld w (Value.agg #[.int .i64 k, .int .i64 p, .int .i64 q, .bool g, .slice A n c, .slice C m d, .int .i64 r]) (Value.agg #[.int .i64 k2, .int .i64 p2, .int .i64 q2, .bool g2, .slice A2 n2 c2, .slice C2 m2 d2, .int .i64 r2]))) (hn : Hid (NV w (Value.agg #[.int .i64 k2, .int .i64 p2, .int .i64 q2, .bool g2, .slice A2 n2 c2, .slice C2 m2 d2, .int .i64 r2]) x)) (b0 : (k2 == 4) = false) : Calls Tryz.prog 12 #[Value.agg #[.int .i64 k, .int .i64 p, .int .i64 q, .bool g, .slice A n c, .slice C m d, .int .i64 r]] w fun e w' => e = .returned (.tuple #[Value.agg #[.int .i64 3, .int .i64 a, .int .i64 b, .bool false, .slice none 0 0, .slice none 0 0, .int .i64 0], .int .i64 0]) ∧ Plus w w' := by
  go_enter Tryz.func12, Tryz.ntmps12
  go_wp2_with (first | (go_at_call 43; (with_reducible refine (Vld.call hv.out (by repeat' (first | exact Plus.refl _ | refine Plus.alloc ?_ _ | refine Plus.plus ?_ _ | refine Plus.drew ?_ | refine Plus.drewN ?_ _))).mono ?_); rintro e w1 ⟨rfl, ⟨x1, rfl⟩⟩) | (go_at_call 10; (with_reducible refine (cnumber_v hJ _ (hL.out.plus (by repeat' (first | exact Plus.refl _ | refine Plus.alloc ?_ _ | refine Plus.plus ?_ _ | refine Plus.drew ?_ | refine Plus.drewN ?_ _))) (hn.out.plus (by repeat' (first | exact Plus.refl _ | refine Plus.alloc ?_ _ | refine Plus.plus ?_ _ | refine Plus.drew ?_ | refine Plus.drewN ?_ _))) (hn.out.vld.plus (by repeat' (first | exact Plus.refl _ | refine Plus.alloc ?_ _ | refine Plus.plus ?_ _ | refine Plus.drew ?_ | refine Plus.drewN ?_ _)))).mono ?_); rintro e w1 ⟨rfl, ⟨x2, rfl⟩⟩) | (go_at_call 49; (with_reducible refine (cnum_n _).mono ?_); rintro e w1 ⟨rfl, ⟨x3, rfl⟩⟩))
  go_returns
  exact ⟨rfl, (by repeat' (first | exact Plus.refl _ | refine Plus.alloc ?_ _ | refine Plus.plus ?_ _ | refine Plus.drew ?_ | refine Plus.drewN ?_ _))⟩
set_option maxRecDepth 100000 in
set_option maxHeartbeats 4000000 in
theorem numeric_e {k p q : Int} {g : Bool} {A C : Option Addr} {n c m d : Nat} {r : Int} {k2 p2 q2 : Int} {g2 : Bool} {A2 C2 : Option Addr} {n2 c2 m2 d2 : Nat} {r2 : Int} {x : JV} {a b s : Int} (hJ : Hid (numJ x = ⟨a, b, s⟩)) (w : World) (hL : Hid (Lai w)) (hv : Hid (Vld w (Value.agg #[.int .i64 k, .int .i64 p, .int .i64 q, .bool g, .slice A n c, .slice C m d, .int .i64 r]) (Value.agg #[.int .i64 k2, .int .i64 p2, .int .i64 q2, .bool g2, .slice A2 n2 c2, .slice C2 m2 d2, .int .i64 r2]))) (hn : Hid (NV w (Value.agg #[.int .i64 k2, .int .i64 p2, .int .i64 q2, .bool g2, .slice A2 n2 c2, .slice C2 m2 d2, .int .i64 r2]) x)) (b0 : (k2 == 4) = false) (b1 : (s != 0) = true) : Calls Tryz.prog 12 #[Value.agg #[.int .i64 k, .int .i64 p, .int .i64 q, .bool g, .slice A n c, .slice C m d, .int .i64 r]] w fun e w' => e = .returned (.tuple #[Value.agg #[.int .i64 0, .int .i64 0, .int .i64 0, .bool false, .slice none 0 0, .slice none 0 0, .int .i64 0], .int .i64 s]) ∧ Plus w w' := by
  go_enter Tryz.func12, Tryz.ntmps12
  go_wp2_with (first | (go_at_call 43; (with_reducible refine (Vld.call hv.out (by repeat' (first | exact Plus.refl _ | refine Plus.alloc ?_ _ | refine Plus.plus ?_ _ | refine Plus.drew ?_ | refine Plus.drewN ?_ _))).mono ?_); rintro e w1 ⟨rfl, ⟨x1, rfl⟩⟩) | (go_at_call 10; (with_reducible refine (cnumber_v hJ _ (hL.out.plus (by repeat' (first | exact Plus.refl _ | refine Plus.alloc ?_ _ | refine Plus.plus ?_ _ | refine Plus.drew ?_ | refine Plus.drewN ?_ _))) (hn.out.plus (by repeat' (first | exact Plus.refl _ | refine Plus.alloc ?_ _ | refine Plus.plus ?_ _ | refine Plus.drew ?_ | refine Plus.drewN ?_ _))) (hn.out.vld.plus (by repeat' (first | exact Plus.refl _ | refine Plus.alloc ?_ _ | refine Plus.plus ?_ _ | refine Plus.drew ?_ | refine Plus.drewN ?_ _)))).mono ?_); rintro e w1 ⟨rfl, ⟨x2, rfl⟩⟩) | (go_at_call 49; (with_reducible refine (cnum_n _).mono ?_); rintro e w1 ⟨rfl, ⟨x3, rfl⟩⟩))
  go_returns
  exact ⟨rfl, (by repeat' (first | exact Plus.refl _ | refine Plus.alloc ?_ _ | refine Plus.plus ?_ _ | refine Plus.drew ?_ | refine Plus.drewN ?_ _))⟩
def NcB (g : Bool) (us : List Nat) (n : Nat) (w : World) (e : Ending) (w' : World) : Prop :=
  ∃ (A : Option Addr) (c : Nat), e = .returned (.tuple #[Value.agg #[.int .i64 4, .int .i64 0, .int .i64 0, .bool g, .slice A n c, .slice none 0 0, .int .i64 0], .int .i64 0]) ∧ Bg.Arg w' A us n c ∧ Plus w w'
set_option maxRecDepth 100000 in
set_option maxHeartbeats 4000000 in
theorem numeric_big {k p q : Int} {g : Bool} {A C : Option Addr} {n c m d : Nat} {r : Int} {g2 : Bool} {A2 C2 : Option Addr} {xs2 : List Nat} {n2 c2 d2 : Nat} (w : World) (hv : Hid (Vld w (Value.agg #[.int .i64 k, .int .i64 p, .int .i64 q, .bool g, .slice A n c, .slice C m d, .int .i64 r]) (Value.agg #[.int .i64 4, .int .i64 0, .int .i64 0, .bool g2, .slice A2 n2 c2, .slice C2 0 d2, .int .i64 0]))) (hb : Hid (Bg.Arg w A2 xs2 n2 c2)) : Calls Tryz.prog 12 #[Value.agg #[.int .i64 k, .int .i64 p, .int .i64 q, .bool g, .slice A n c, .slice C m d, .int .i64 r]] w (NcB g2 xs2 n2 w) := by
  go_enter Tryz.func12, Tryz.ntmps12
  go_wp2_with (first | (go_at_call 43; (with_reducible refine (Vld.call hv.out (by repeat' (first | exact Plus.refl _ | refine Plus.alloc ?_ _ | refine Plus.plus ?_ _ | refine Plus.drew ?_ | refine Plus.drewN ?_ _))).mono ?_); rintro e w1 ⟨rfl, ⟨x1, rfl⟩⟩) | (go_at_call 48; (with_reducible refine (cloned_h _ (hb.out.plus (by repeat' (first | exact Plus.refl _ | refine Plus.alloc ?_ _ | refine Plus.plus ?_ _ | refine Plus.drew ?_ | refine Plus.drewN ?_ _)))).mono ?_); rintro e w2 ⟨A1, c1, rfl, hA, ⟨x2, rfl⟩⟩; have HA := Lib.hid hA; clear hA))
  go_returns
  exact ⟨A1, c1, rfl, arg_off HA.out (by repeat' (first | exact Off.refl _ _ | refine Off.plus ?_ _ | refine Off.alloc ?_ _ | exact Off.allocN (Off.refl _ _) (noB _ _ _ _ _) | exact Off.allocN (Off.refl _ _) (noV _ _ _ _ _ _ _ _ _ _ _ _) | refine Off.allocN ?_ (noB _ _ _ _ _) | refine Off.allocN ?_ (noV _ _ _ _ _ _ _ _ _ _ _ _) | refine Off.drew ?_)), (by repeat' (first | exact Plus.refl _ | refine Plus.alloc ?_ _ | refine Plus.plus ?_ _ | refine Plus.drew ?_ | refine Plus.drewN ?_ _))⟩
theorem NV.kind {w : World} {v : Value} {x : JV} (h : NV w v x) (hb : ∀ z, x ≠ .big z) : ∃ (k p q : Int) (g : Bool) (A C : Option Addr) (n c m d : Nat) (r : Int), v = (Value.agg #[.int .i64 k, .int .i64 p, .int .i64 q, .bool g, .slice A n c, .slice C m d, .int .i64 r]) ∧ (k == 4) = false := by
  cases x with
  | undef => obtain ⟨A, C, c, d, rfl, _⟩ := h; exact ⟨_, _, _, _, _, _, _, _, _, _, _, rfl, rfl⟩
  | null => obtain ⟨A, C, c, d, rfl, _⟩ := h; exact ⟨_, _, _, _, _, _, _, _, _, _, _, rfl, rfl⟩
  | bool b => obtain ⟨A, C, c, d, rfl, _⟩ := h; exact ⟨_, _, _, _, _, _, _, _, _, _, _, rfl, rfl⟩
  | num p q => obtain ⟨A, C, c, d, rfl, _⟩ := h; exact ⟨_, _, _, _, _, _, _, _, _, _, _, rfl, rfl⟩
  | big z => exact absurd rfl (hb z)
  | text us => obtain ⟨A, C, c, m, d, rfl, _⟩ := h; exact ⟨_, _, _, _, _, _, _, _, _, _, _, rfl, rfl⟩
  | obj r => obtain ⟨A, C, c, d, rfl, _⟩ := h; exact ⟨_, _, _, _, _, _, _, _, _, _, _, rfl, rfl⟩
theorem cnumeric_y {k p q : Int} {g : Bool} {A C : Option Addr} {n c m d : Nat} {r : Int} {v' : Value} {x : JV} {a b : Int} (hJ : Hid (numJ x = ⟨a, b, 0⟩)) (hb : ∀ z, x ≠ .big z) (w : World) (hL : Lai w) (hn : NV w v' x) (hv : Vld w (Value.agg #[.int .i64 k, .int .i64 p, .int .i64 q, .bool g, .slice A n c, .slice C m d, .int .i64 r]) v') : Calls Tryz.prog 12 #[Value.agg #[.int .i64 k, .int .i64 p, .int .i64 q, .bool g, .slice A n c, .slice C m d, .int .i64 r]] w fun e w' => e = .returned (.tuple #[Value.agg #[.int .i64 3, .int .i64 a, .int .i64 b, .bool false, .slice none 0 0, .slice none 0 0, .int .i64 0], .int .i64 0]) ∧ Plus w w' := by
  obtain ⟨k2, p2, q2, g2, A2, C2, n2, c2, m2, d2, r2, rfl, hk⟩ := hn.kind hb
  exact numeric_y hJ w (Lib.hid hL) (Lib.hid hv) (Lib.hid hn) hk
theorem cnumeric_e {k p q : Int} {g : Bool} {A C : Option Addr} {n c m d : Nat} {r : Int} {v' : Value} {x : JV} {a b s : Int} (hJ : Hid (numJ x = ⟨a, b, s⟩)) (hb : ∀ z, x ≠ .big z) (hs : (s != 0) = true) (w : World) (hL : Lai w) (hn : NV w v' x) (hv : Vld w (Value.agg #[.int .i64 k, .int .i64 p, .int .i64 q, .bool g, .slice A n c, .slice C m d, .int .i64 r]) v') : Calls Tryz.prog 12 #[Value.agg #[.int .i64 k, .int .i64 p, .int .i64 q, .bool g, .slice A n c, .slice C m d, .int .i64 r]] w fun e w' => e = .returned (.tuple #[Value.agg #[.int .i64 0, .int .i64 0, .int .i64 0, .bool false, .slice none 0 0, .slice none 0 0, .int .i64 0], .int .i64 s]) ∧ Plus w w' := by
  obtain ⟨k2, p2, q2, g2, A2, C2, n2, c2, m2, d2, r2, rfl, hk⟩ := hn.kind hb
  exact numeric_e hJ w (Lib.hid hL) (Lib.hid hv) (Lib.hid hn) hk hs
theorem sgn_V {b : Bool} {k n : Int} (h : IsV k n) : IsV (sgnK b k n) (sgnN b k n) := by
  cases b
  · exact h
  · simp only [sgnK, sgnN, if_true, negR, vk_of h, vn_of h]
    rcases h with ⟨rfl, h1, h2⟩ | ⟨rfl, rfl⟩ | ⟨rfl, rfl⟩ | ⟨rfl, rfl⟩ | ⟨rfl, rfl⟩
    · unfold negS
      rw [if_neg (by decide), if_neg (by decide), if_neg (by decide), if_neg (by decide)]
      by_cases h0 : n = 0
      · rw [if_pos h0]; exact .inr (.inl ⟨rfl, rfl⟩)
      · rw [if_neg h0]; exact .inl ⟨rfl, by show -9007199254740991 ≤ -n; omega, by show -n ≤ 9007199254740991; omega⟩
    · exact .inl ⟨rfl, by decide, by decide⟩
    · exact .inr (.inr (.inl ⟨rfl, rfl⟩))
    · exact .inr (.inr (.inr (.inr ⟨rfl, rfl⟩)))
    · exact .inr (.inr (.inr (.inl ⟨rfl, rfl⟩)))
theorem ofS_V (n : Int) : IsV (ofS n).k (ofS n).n := by
  unfold ofS
  split
  · rename_i h; exact .inl ⟨rfl, h.1, h.2⟩
  · exact .inr (.inr (.inl ⟨rfl, rfl⟩))
theorem parS_V (l : List UInt8) : IsV (parS l).k (parS l).n := by
  unfold parS
  split
  · exact .inr (.inr (.inl ⟨rfl, rfl⟩))
  · split
    · exact .inr (.inr (.inr (.inl ⟨rfl, rfl⟩)))
    · split
      · exact .inr (.inr (.inr (.inr ⟨rfl, rfl⟩)))
      · split
        · split
          · exact ofS_V _
          · exact .inr (.inr (.inl ⟨rfl, rfl⟩))
        · exact .inr (.inr (.inl ⟨rfl, rfl⟩))
theorem numU_V (us : List Nat) : IsV (numU us).k (numU us).n := by
  unfold numU
  split
  · unfold numT
    split
    · exact .inl ⟨rfl, by decide, by decide⟩
    · split
      · split
        · exact .inr (.inr (.inr (.inr ⟨rfl, rfl⟩)))
        · exact .inr (.inr (.inr (.inl ⟨rfl, rfl⟩)))
      · split
        · exact sgn_V (parS_V _)
        · exact .inr (.inr (.inl ⟨rfl, rfl⟩))
  · exact .inr (.inr (.inl ⟨rfl, rfl⟩))
theorem numJ_V {x : JV} (h : okJ x) : IsV (numJ x).k (numJ x).n := by
  cases x with
  | num p q => exact h
  | text us =>
    show IsV (nofU us).k (nofU us).n
    unfold nofU
    split
    · exact numU_V us
    · exact .inl ⟨rfl, by decide, by decide⟩
  | bool b => exact .inl ⟨rfl, by cases b <;> decide, by cases b <;> decide⟩
  | undef => exact .inr (.inr (.inl ⟨rfl, rfl⟩))
  | null => exact .inl ⟨rfl, by decide, by decide⟩
  | big z => exact .inl ⟨rfl, by show (-9007199254740991 : Int) ≤ 0; decide, by show (0 : Int) ≤ 9007199254740991; decide⟩
  | obj r => exact .inl ⟨rfl, by show (-9007199254740991 : Int) ≤ 0; decide, by show (0 : Int) ≤ 9007199254740991; decide⟩
end Go.Proofs.YtakahpbondaidaaGreatDoor
