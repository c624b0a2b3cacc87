/- text.Less. oper: compare, less. -/
import Derived.IntWalk
import Derived.Test.YtgljfgkkolfnbaaGreatDoorBB
import Derived.Test.YtgljfgkkolfnbaaGreatDoorOB
import Derived.Test.YtgljfgkkolfnbaaGreatDoorOA
import Derived.Test.YtgljfgkkolfnbaaGreatDoorQD
namespace Go.Proofs.YtgljfgkkolfnbaaGreatDoor
open Go.RowKit




/-- How two lists are ordered. -/
def cmpL : List Nat → List Nat → Int
  | [], [] => 0
  | [], _ :: _ => -1
  | _ :: _, [] => 1
  | a :: l, b :: r => if a < b then -1 else if b < a then 1 else cmpL l r
theorem drop_cons {xs : List Nat} {k : Nat} (h : k < xs.length) : xs.drop k = xs.getD k 0 :: xs.drop (k + 1) := by
  rw [List.drop_eq_getElem_cons h, List.getD_eq_getElem?_getD, List.getElem?_eq_getElem h]
  rfl
theorem drop_end {xs : List Nat} {k : Nat} (h : xs.length ≤ k) : xs.drop k = [] := List.drop_eq_nil_of_le h
theorem isNaN16_c (x : Nat) (w : World) : Calls Tryz.prog 232 #[.int .u16 x] w fun e w' => e = .returned (.bool false) ∧ w = w' := by
  have hb : ((x : Int) != (x : Int)) = false := by simp
  go_enter Tryz.func232, Tryz.ntmps232
  go_wp2
  go_ret
  exact ⟨rfl, rfl⟩
def cmp2 (x y : Nat) : Int := if x < y then -1 else if y < x then 1 else 0
theorem cmp2_c (x y : Nat) (w : World) : Calls Tryz.prog 220 #[.int .u16 x, .int .u16 y] w fun e w' => e = .returned (.int .i64 (cmp2 x y)) ∧ w = w' := by
  rcases Nat.lt_trichotomy x y with h | h | h
  · have d1 : decide ((x : Int) < (y : Int)) = true := by simp [h]
    have d2 : decide (x < y) = true := by simp [h]
    go_enter Tryz.func220, Tryz.ntmps220
    go_wp2_with (go_at_call 232; refine (isNaN16_c _ _).mono ?_; rintro e w1 ⟨rfl, rfl⟩)
    go_ret
    exact ⟨by unfold cmp2; rw [if_pos h]; rfl, rfl⟩
  · subst h
    go_enter Tryz.func220, Tryz.ntmps220
    go_wp2_with (go_at_call 232; refine (isNaN16_c _ _).mono ?_; rintro e w1 ⟨rfl, rfl⟩)
    go_ret
    exact ⟨by unfold cmp2; rw [if_neg (by omega), if_neg (by omega)]; rfl, rfl⟩
  · have d1 : decide ((x : Int) < (y : Int)) = false := by simp; omega
    have d2 : decide (x < y) = false := by simp; omega
    have d3 : decide ((y : Int) < (x : Int)) = true := by simp; omega
    have d4 : decide (y < x) = true := by simp; omega
    go_enter Tryz.func220, Tryz.ntmps220
    go_wp2_with (go_at_call 232; refine (isNaN16_c _ _).mono ?_; rintro e w1 ⟨rfl, rfl⟩)
    go_ret
    exact ⟨by unfold cmp2; rw [if_neg (by omega), if_pos h]; rfl, rfl⟩
def CmpRel (xs ys : List Nat) (s11 : Value) : Prop := ∃ k : Nat, k ≤ xs.length ∧ k ≤ ys.length ∧ s11 = .int .i64 k ∧ cmpL xs ys = cmpL (xs.drop k) (ys.drop k)
set_option maxRecDepth 100000 in
set_option maxHeartbeats 1000000 in
theorem compare_c (A C : Option Addr) (xs ys : List Nat) (n c m d : Nat) (w : World) (ha : Ar .u16 65536 w A xs n c) (hb : Ar .u16 65536 w C ys m d) :
    Calls Tryz.prog 203 #[.slice A n c, .slice C m d] w fun e w' => e = .returned (.int .i64 (cmpL xs ys)) ∧ w = w' := by
  obtain ⟨hrd, hlen, hcap, hmax, hbd⟩ := ha
  obtain ⟨krd, klen, kcap, kmax, kbd⟩ := hb
  subst hlen klen
  go_enter Tryz.func203, Tryz.ntmps203
  go_wp2
  go_loop [11] (CmpRel xs ys) (fun s => ((xs.length : Int) - intOf s).toNat)
  case atStart => exact ⟨0, by omega, by omega, rfl, rfl⟩
  case round =>
    obtain ⟨k, hk, hk2, rfl, he⟩ := hrel
    by_cases hlt : k < xs.length
    · obtain ⟨g, o, rfl, hg, hat⟩ := hrd.at_ hlt
      have hcell := hat k hlt
      have hadd := add_addr g o k
      have HA1 := Lib.hid (drop_cons hlt)
      have HE := Lib.hid he
      clear he hat
      obtain ⟨v, hv⟩ : ∃ v, xs.getD k 0 = v := ⟨_, rfl⟩
      rw [hv] at hcell
      by_cases hlt2 : k < ys.length
      · obtain ⟨g2, o2, rfl, hg2, hat2⟩ := krd.at_ hlt2
        have hcell2 := hat2 k hlt2
        have hadd2 := add_addr g2 o2 k
        have HA2 := Lib.hid (drop_cons hlt2)
        obtain ⟨u, hu⟩ : ∃ u, ys.getD k 0 = u := ⟨_, rfl⟩
        rw [hu] at hcell2
        have HV := Lib.hid hv
        have HU := Lib.hid hu
        clear hv hu hat2
        rcases Nat.lt_trichotomy v u with h | h | h
        · have hc : cmp2 v u = -1 := by unfold cmp2; rw [if_pos h]
          have HC := Lib.hid hc
          have HR : Hid (cmpL xs ys = -1) := Lib.hid (by rw [HE.out, HA1.out, HA2.out, HV.out, HU.out]; unfold cmpL; rw [if_pos h])
          clear hc
          go_wp2_with (go_at_call 220; refine (cmp2_c _ _ _).mono ?_; rintro e w1 ⟨rfl, rfl⟩; rw [HC.out])
          go_ret
          exact ⟨by rw [HR.out]; rfl, rfl⟩
        · subst h
          have hc : cmp2 v v = 0 := by unfold cmp2; rw [if_neg (by omega), if_neg (by omega)]
          have HC := Lib.hid hc
          have HR : Hid (cmpL xs ys = cmpL (xs.drop (k + 1)) (ys.drop (k + 1))) := Lib.hid (by rw [HE.out, HA1.out, HA2.out, HV.out, HU.out]; conv => lhs; unfold cmpL
                                                                                               rw [if_neg (by omega), if_neg (by omega)])
          clear hc
          go_wp2_with (go_at_call 220; refine (cmp2_c _ _ _).mono ?_; rintro e w1 ⟨rfl, rfl⟩; rw [HC.out])
          go_round
          case rel => exact ⟨k + 1, hlt, hlt2, by rw [show ((k + 1 : Nat) : Int) = (k : Int) + 1 by omega], HR.out⟩
          case measure => simp [intOf]; omega
        · have hc : cmp2 v u = 1 := by unfold cmp2; rw [if_neg (by omega), if_pos h]
          have HC := Lib.hid hc
          have HR : Hid (cmpL xs ys = 1) := Lib.hid (by rw [HE.out, HA1.out, HA2.out, HV.out, HU.out]; unfold cmpL; rw [if_neg (by omega), if_pos h])
          clear hc
          go_wp2_with (go_at_call 220; refine (cmp2_c _ _ _).mono ?_; rintro e w1 ⟨rfl, rfl⟩; rw [HC.out])
          go_ret
          exact ⟨by rw [HR.out]; rfl, rfl⟩
      · have HR : Hid (cmpL xs ys = 1) := Lib.hid (by rw [HE.out, HA1.out, drop_end (by omega : ys.length ≤ k)]; rfl)
        obtain rfl : k = ys.length := by omega
        clear hv
        go_wp2
        go_ret
        exact ⟨by rw [HR.out]; rfl, rfl⟩
    · obtain rfl : k = xs.length := by omega
      rw [drop_end (Nat.le_refl _)] at he
      by_cases hlt2 : xs.length < ys.length
      · have HR : Hid (cmpL xs ys = -1) := Lib.hid (by rw [he, drop_cons hlt2]; rfl)
        clear he
        go_wp2
        go_ret
        exact ⟨by rw [HR.out]; rfl, rfl⟩
      · have HR : Hid (cmpL xs ys = 0) := Lib.hid (by rw [he, drop_end (by omega)]; rfl)
        clear he
        go_wp2
        go_ret
        exact ⟨by rw [HR.out]; rfl, rfl⟩
/-- Does xs come before ys? -/
def lessL (xs ys : List Nat) : Bool := decide (cmpL xs ys < 0)
theorem tless_c (A C : Option Addr) (xs ys : List Nat) (n c m d : Nat) (w : World) (ha : Ar .u16 65536 w A xs n c) (hb : Ar .u16 65536 w C ys m d) :
    Calls Tryz.prog 175 #[.slice A n c, .slice C m d] w fun e w' => e = .returned (.bool (lessL xs ys)) ∧ w = w' := by
  have HA := Lib.hid ha
  have HB := Lib.hid hb
  clear ha hb
  go_enter Tryz.func175, Tryz.ntmps175
  go_wp2_with (go_at_call 203; refine (compare_c _ _ _ _ _ _ _ _ _ HA.out HB.out).mono ?_; rintro e w1 ⟨rfl, rfl⟩)
  go_ret
  exact ⟨rfl, rfl⟩
end Go.Proofs.YtgljfgkkolfnbaaGreatDoor

namespace Go.Proofs.YtgljfgkkolfnbaaGreatDoor
open Go.RowKit

set_option maxRecDepth 100000 in
set_option maxHeartbeats 4000000 in
theorem comp_i {ga : Bool} {Aa : Option Addr} {na ca : Nat} {q : Int} (w : World) : Calls Tryz.prog 177 #[.agg #[.bool ga, .slice Aa na ca], .agg #[.int .i64 3, .int .i64 q]] w (fun e w' => e = .returned (.int .i64 (-1)) ∧ Plus w w') := by
  go_enter Tryz.func177, Tryz.ntmps177
  go_wp2_with fail
  go_returns
  exact ⟨rfl, (by repeat' (first | exact Plus.refl _ | refine Plus.alloc ?_ _ | refine Plus.plus ?_ _ | refine Plus.drew ?_ | refine Plus.drewN ?_ _))⟩
set_option maxRecDepth 100000 in
set_option maxHeartbeats 4000000 in
theorem comp_m {ga : Bool} {Aa : Option Addr} {na ca : Nat} {q : Int} (w : World) : Calls Tryz.prog 177 #[.agg #[.bool ga, .slice Aa na ca], .agg #[.int .i64 4, .int .i64 q]] w (fun e w' => e = .returned (.int .i64 1) ∧ Plus w w') := by
  go_enter Tryz.func177, Tryz.ntmps177
  go_wp2_with fail
  go_returns
  exact ⟨rfl, (by repeat' (first | exact Plus.refl _ | refine Plus.alloc ?_ _ | refine Plus.plus ?_ _ | refine Plus.drew ?_ | refine Plus.drewN ?_ _))⟩
theorem bcmp_v {ga gb : Bool} {Aa Ab : Option Addr} {xsa xsb : List Nat} {na ca nb cb : Nat} {za zb v : Int} (h : Hid (Bg.cmpZ za zb = v)) (w : World) (ha : BgV ga Aa xsa na ca za w) (hb : BgV gb Ab xsb nb cb zb w) : Calls Tryz.prog 134 #[.agg #[.bool ga, .slice Aa na ca], .agg #[.bool gb, .slice Ab nb cb]] w (fun e w' => e = .returned (.int .i64 v) ∧ Plus w w') :=
  Bg.cmp_n (Lib.hid ha.2.1) (Lib.hid hb.2.1) h w ha.2.2 hb.2.2
theorem bof_q {q : Int} {pb : Bool} {us : List Nat} (h : Hid (Bg.OfN q q pb us)) (w : World) : Calls Tryz.prog 48 #[.int .i64 q] w fun e w' => ∃ (A1 : Option Addr) (c1 : Nat), e = .returned (.agg #[.bool pb, .slice A1 us.length c1]) ∧ BgV pb A1 us us.length c1 q w' ∧ Plus w w' := by
  refine (Bg.of_n h w).mono ?_
  rintro e w' ⟨A1, c1, rfl, hA, hp⟩
  exact ⟨A1, c1, rfl, BgV.mk3 h.out.1 hA, hp⟩
theorem ofN_q {q : Int} (h1 : -9223372036854775808 ≤ q) (h2 : q ≤ 9223372036854775807) : Bg.OfN q q (decide (q < 0)) (Bg.dig q.natAbs) := ⟨Bg.Nm.mk' (by rw [Bg.B_eq]; simp; omega), rfl, h1, h2⟩
set_option maxRecDepth 100000 in
set_option maxHeartbeats 4000000 in
theorem comp_f {ga : Bool} {Aa : Option Addr} {xsa : List Nat} {na ca : Nat} {za p q : Int} {v : Int} {pb : Bool} {us : List Nat} (w : World) (h1 : Hid (BgV ga Aa xsa na ca za w)) (hO : Hid (Bg.OfN q q pb us)) (p3 : (p == 3) = false) (p4 : (p == 4) = false) (hv : Hid (Bg.cmpZ za q = v)) : Calls Tryz.prog 177 #[.agg #[.bool ga, .slice Aa na ca], .agg #[.int .i64 p, .int .i64 q]] w (fun e w' => e = .returned (.int .i64 v) ∧ Plus w w') := by
  go_enter Tryz.func177, Tryz.ntmps177
  go_wp2_with fail
  go_region_with (first | (go_at_call 48; (with_reducible refine (bof_q hO _).mono ?_); rintro e w1 ⟨A2, c2, rfl, hA, ⟨x1, rfl⟩⟩; have HA := Lib.hid hA; clear hA) | (go_at_call 134; (with_reducible refine (bcmp_v hv _ (h1.out.offs (by repeat (first | (refine Offp.of ?_; (repeat' (first | exact Offs.refl _ | refine Offs.plus ?_ _ | refine Offs.alloc ?_ _ | exact Offs.allocN (Offs.refl _) (nuV _ _ _ _ _ _ _ _ _ _ _ _) | refine Offs.allocN ?_ (nuV _ _ _ _ _ _ _ _ _ _ _ _) | refine Offs.allocN ?_ (nuB _ _ _ _ _) | refine Offs.allocN ?_ (nuN _ _ _) | refine Offs.drew ?_ | refine Offs.drewL ?_ | refine Offs.drewR ?_)); done) | refine Offp.plusR ?_ _ | refine Offp.allocR ?_ _ | refine Offp.drewR ?_))) (HA.out.offs (by repeat (first | (refine Offp.of ?_; (repeat' (first | exact Offs.refl _ | refine Offs.plus ?_ _ | refine Offs.alloc ?_ _ | exact Offs.allocN (Offs.refl _) (nuV _ _ _ _ _ _ _ _ _ _ _ _) | refine Offs.allocN ?_ (nuV _ _ _ _ _ _ _ _ _ _ _ _) | refine Offs.allocN ?_ (nuB _ _ _ _ _) | refine Offs.allocN ?_ (nuN _ _ _) | refine Offs.drew ?_ | refine Offs.drewL ?_ | refine Offs.drewR ?_)); done) | refine Offp.plusR ?_ _ | refine Offp.allocR ?_ _ | refine Offp.drewR ?_)))).mono ?_); rintro e w1 ⟨rfl, ⟨x2, rfl⟩⟩))
  all_goals
    go_wp2_with fail
    go_returns
    exact ⟨rfl, (by repeat' (first | exact Plus.refl _ | refine Plus.alloc ?_ _ | refine Plus.plus ?_ _ | refine Plus.drew ?_ | refine Plus.drewN ?_ _))⟩
def cmpBN (z p q : Int) : Int := if p = 3 then -1 else if p = 4 then 1 else Bg.cmpZ z q
theorem comp_v {ga : Bool} {Aa : Option Addr} {xsa : List Nat} {na ca : Nat} {za p q : Int} {v : Int} (hv : Hid (cmpBN za p q = v)) (hq : Hid (-9007199254740991 ≤ q ∧ q ≤ 9007199254740991)) (w : World) (h1 : BgV ga Aa xsa na ca za w) : Calls Tryz.prog 177 #[.agg #[.bool ga, .slice Aa na ca], .agg #[.int .i64 p, .int .i64 q]] w (fun e w' => e = .returned (.int .i64 v) ∧ Plus w w') := by
  have h := hv.out
  unfold cmpBN at h
  by_cases h3 : p = 3
  · subst h3
    rw [if_pos rfl] at h
    subst h
    exact comp_i w
  · rw [if_neg h3] at h
    by_cases h4 : p = 4
    · subst h4
      rw [if_pos rfl] at h
      subst h
      exact comp_m w
    · rw [if_neg h4] at h
      exact comp_f w (Lib.hid h1) (Lib.hid (ofN_q (by have := hq.out; omega) (by have := hq.out; omega))) (beq_f h3) (beq_f h4) (Lib.hid h)
theorem tless_v {Aa Ab : Option Addr} {us vs : List Nat} {na ca nb cb : Nat} {b : Bool} (h : Hid (lessL us vs = b)) (w : World) (ha : Ar .u16 65536 w Aa us na ca) (hb : Ar .u16 65536 w Ab vs nb cb) : Calls Tryz.prog 175 #[.slice Aa na ca, .slice Ab nb cb] w (fun e w' => e = .returned (.bool b) ∧ Plus w w') := by
  rw [← h.out]
  refine (tless_c Aa Ab us vs na ca nb cb w ha hb).mono ?_
  rintro e w' ⟨rfl, rfl⟩
  exact ⟨rfl, Plus.refl _⟩
set_option maxRecDepth 100000 in
set_option maxHeartbeats 4000000 in
theorem less_TT {A1 C1 : Option Addr} {us1 : List Nat} {c1 m1 d1 : Nat} {A2 C2 : Option Addr} {us2 : List Nat} {c2 m2 d2 : Nat} (w : World) (h1 : Hid (Ar .u16 65536 w C1 us1 m1 d1)) (h2 : Hid (Ar .u16 65536 w C2 us2 m2 d2)) {b : Bool} (hb : Hid (lessL us1 us2 = b)) : Calls Tryz.prog 125 #[Value.agg #[.int .i64 5, .int .i64 0, .int .i64 0, .bool false, .slice A1 0 c1, .slice C1 m1 d1, .int .i64 0], Value.agg #[.int .i64 5, .int .i64 0, .int .i64 0, .bool false, .slice A2 0 c2, .slice C2 m2 d2, .int .i64 0]] w (fun e w' => e = .returned (.bool b) ∧ Plus w w') := by
  go_enter Tryz.func125, Tryz.ntmps125
  go_wp2_with (first | (go_at_call_of 174 (Value.int IntKind.i64 5); (with_reducible refine (both_v (b := true) (by decide) _).mono ?_); rintro e w1 ⟨rfl, ⟨x5, rfl⟩⟩) | (go_at_call 175; (with_reducible refine (tless_v hb _ (h1.out.plus (by repeat' (first | exact Plus.refl _ | refine Plus.alloc ?_ _ | refine Plus.plus ?_ _ | refine Plus.drew ?_ | refine Plus.drewN ?_ _))) (h2.out.plus (by repeat' (first | exact Plus.refl _ | refine Plus.alloc ?_ _ | refine Plus.plus ?_ _ | refine Plus.drew ?_ | refine Plus.drewN ?_ _)))).mono ?_); rintro e w1 ⟨rfl, ⟨y1, rfl⟩⟩))
  go_returns
  exact ⟨rfl, (by repeat' (first | exact Plus.refl _ | refine Plus.alloc ?_ _ | refine Plus.plus ?_ _ | refine Plus.drew ?_ | refine Plus.drewN ?_ _))⟩
set_option maxRecDepth 100000 in
set_option maxHeartbeats 4000000 in
theorem less_NN {p1 q1 : Int} {A1 C1 : Option Addr} {c1 d1 : Nat} {p2 q2 : Int} {A2 C2 : Option Addr} {c2 d2 : Nat} (w : World) {b : Bool} (hb : Hid (lessR p1 q1 p2 q2 = b)) : Calls Tryz.prog 125 #[Value.agg #[.int .i64 3, .int .i64 p1, .int .i64 q1, .bool false, .slice A1 0 c1, .slice C1 0 d1, .int .i64 0], Value.agg #[.int .i64 3, .int .i64 p2, .int .i64 q2, .bool false, .slice A2 0 c2, .slice C2 0 d2, .int .i64 0]] w (fun e w' => e = .returned (.bool b) ∧ Plus w w') := by
  go_enter Tryz.func125, Tryz.ntmps125
  go_wp2_with (first | (go_at_call_of 174 (Value.int IntKind.i64 5); (with_reducible refine (both_v (b := false) (by decide) _).mono ?_); rintro e w1 ⟨rfl, ⟨x5, rfl⟩⟩) | (go_at_call_of 174 (Value.int IntKind.i64 3); (with_reducible refine (both_v (b := true) (by decide) _).mono ?_); rintro e w1 ⟨rfl, ⟨x3, rfl⟩⟩) | (go_at_call 176; (with_reducible refine (less_v hb _).mono ?_); rintro e w1 ⟨rfl, ⟨y1, rfl⟩⟩))
  go_returns
  exact ⟨rfl, (by repeat' (first | exact Plus.refl _ | refine Plus.alloc ?_ _ | refine Plus.plus ?_ _ | refine Plus.drew ?_ | refine Plus.drewN ?_ _))⟩
set_option maxRecDepth 100000 in
set_option maxHeartbeats 4000000 in
theorem less_BB {g1 : Bool} {A1 C1 : Option Addr} {xs1 : List Nat} {n1 c1 d1 : Nat} {z1 : Int} {g2 : Bool} {A2 C2 : Option Addr} {xs2 : List Nat} {n2 c2 d2 : Nat} {z2 : Int} (w : World) (h1 : Hid (BgV g1 A1 xs1 n1 c1 z1 w)) (h2 : Hid (BgV g2 A2 xs2 n2 c2 z2 w)) {v : Int} {b : Bool} (hb : Hid (Bg.cmpZ z1 z2 = v)) (hv : decide (v < 0) = b) : Calls Tryz.prog 125 #[Value.agg #[.int .i64 4, .int .i64 0, .int .i64 0, .bool g1, .slice A1 n1 c1, .slice C1 0 d1, .int .i64 0], Value.agg #[.int .i64 4, .int .i64 0, .int .i64 0, .bool g2, .slice A2 n2 c2, .slice C2 0 d2, .int .i64 0]] w (fun e w' => e = .returned (.bool b) ∧ Plus w w') := by
  go_enter Tryz.func125, Tryz.ntmps125
  go_wp2_with (first | (go_at_call_of 174 (Value.int IntKind.i64 5); (with_reducible refine (both_v (b := false) (by decide) _).mono ?_); rintro e w1 ⟨rfl, ⟨x5, rfl⟩⟩) | (go_at_call_of 174 (Value.int IntKind.i64 3); (with_reducible refine (both_v (b := false) (by decide) _).mono ?_); rintro e w1 ⟨rfl, ⟨x3, rfl⟩⟩) | (go_at_call_of 174 (Value.int IntKind.i64 4); (with_reducible refine (both_v (b := true) (by decide) _).mono ?_); rintro e w1 ⟨rfl, ⟨x4, rfl⟩⟩) | (go_at_call 134; (with_reducible refine (bcmp_v hb _ (h1.out.offs (by repeat (first | (refine Offp.of ?_; (repeat' (first | exact Offs.refl _ | refine Offs.plus ?_ _ | refine Offs.alloc ?_ _ | exact Offs.allocN (Offs.refl _) (nuV _ _ _ _ _ _ _ _ _ _ _ _) | refine Offs.allocN ?_ (nuV _ _ _ _ _ _ _ _ _ _ _ _) | refine Offs.allocN ?_ (nuB _ _ _ _ _) | refine Offs.allocN ?_ (nuN _ _ _) | refine Offs.drew ?_ | refine Offs.drewL ?_ | refine Offs.drewR ?_)); done) | refine Offp.plusR ?_ _ | refine Offp.allocR ?_ _ | refine Offp.drewR ?_))) (h2.out.offs (by repeat (first | (refine Offp.of ?_; (repeat' (first | exact Offs.refl _ | refine Offs.plus ?_ _ | refine Offs.alloc ?_ _ | exact Offs.allocN (Offs.refl _) (nuV _ _ _ _ _ _ _ _ _ _ _ _) | refine Offs.allocN ?_ (nuV _ _ _ _ _ _ _ _ _ _ _ _) | refine Offs.allocN ?_ (nuB _ _ _ _ _) | refine Offs.allocN ?_ (nuN _ _ _) | refine Offs.drew ?_ | refine Offs.drewL ?_ | refine Offs.drewR ?_)); done) | refine Offp.plusR ?_ _ | refine Offp.allocR ?_ _ | refine Offp.drewR ?_)))).mono ?_); rintro e w1 ⟨rfl, ⟨y1, rfl⟩⟩))
  go_returns
  exact ⟨rfl, (by repeat' (first | exact Plus.refl _ | refine Plus.alloc ?_ _ | refine Plus.plus ?_ _ | refine Plus.drew ?_ | refine Plus.drewN ?_ _))⟩
set_option maxRecDepth 100000 in
set_option maxHeartbeats 4000000 in
theorem less_BN {g1 : Bool} {A1 C1 : Option Addr} {xs1 : List Nat} {n1 c1 d1 : Nat} {z1 : Int} {p2 q2 : Int} {A2 C2 : Option Addr} {c2 d2 : Nat} (w : World) (h1 : Hid (BgV g1 A1 xs1 n1 c1 z1 w)) {v : Int} {b : Bool} (hq : Hid (-9007199254740991 ≤ q2 ∧ q2 ≤ 9007199254740991)) (hb : Hid (cmpBN z1 p2 q2 = v)) (hv : decide (v < 0) = b) : Calls Tryz.prog 125 #[Value.agg #[.int .i64 4, .int .i64 0, .int .i64 0, .bool g1, .slice A1 n1 c1, .slice C1 0 d1, .int .i64 0], Value.agg #[.int .i64 3, .int .i64 p2, .int .i64 q2, .bool false, .slice A2 0 c2, .slice C2 0 d2, .int .i64 0]] w (fun e w' => e = .returned (.bool b) ∧ Plus w w') := by
  go_enter Tryz.func125, Tryz.ntmps125
  go_wp2_with (first | (go_at_call_of 174 (Value.int IntKind.i64 5); (with_reducible refine (both_v (b := false) (by decide) _).mono ?_); rintro e w1 ⟨rfl, ⟨x5, rfl⟩⟩) | (go_at_call_of 174 (Value.int IntKind.i64 3); (with_reducible refine (both_v (b := false) (by decide) _).mono ?_); rintro e w1 ⟨rfl, ⟨x3, rfl⟩⟩) | (go_at_call_of 174 (Value.int IntKind.i64 4); (with_reducible refine (both_v (b := false) (by decide) _).mono ?_); rintro e w1 ⟨rfl, ⟨x4, rfl⟩⟩) | (go_at_call 177; (with_reducible refine (comp_v hb hq _ (h1.out.offs (by repeat (first | (refine Offp.of ?_; (repeat' (first | exact Offs.refl _ | refine Offs.plus ?_ _ | refine Offs.alloc ?_ _ | exact Offs.allocN (Offs.refl _) (nuV _ _ _ _ _ _ _ _ _ _ _ _) | refine Offs.allocN ?_ (nuV _ _ _ _ _ _ _ _ _ _ _ _) | refine Offs.allocN ?_ (nuB _ _ _ _ _) | refine Offs.allocN ?_ (nuN _ _ _) | refine Offs.drew ?_ | refine Offs.drewL ?_ | refine Offs.drewR ?_)); done) | refine Offp.plusR ?_ _ | refine Offp.allocR ?_ _ | refine Offp.drewR ?_)))).mono ?_); rintro e w1 ⟨rfl, ⟨y1, rfl⟩⟩))
  go_returns
  exact ⟨rfl, (by repeat' (first | exact Plus.refl _ | refine Plus.alloc ?_ _ | refine Plus.plus ?_ _ | refine Plus.drew ?_ | refine Plus.drewN ?_ _))⟩
set_option maxRecDepth 100000 in
set_option maxHeartbeats 4000000 in
theorem less_NB {p1 q1 : Int} {A1 C1 : Option Addr} {c1 d1 : Nat} {g2 : Bool} {A2 C2 : Option Addr} {xs2 : List Nat} {n2 c2 d2 : Nat} {z2 : Int} (w : World) (h2 : Hid (BgV g2 A2 xs2 n2 c2 z2 w)) {v : Int} {b : Bool} (hq : Hid (-9007199254740991 ≤ q1 ∧ q1 ≤ 9007199254740991)) (hb : Hid (cmpBN z2 p1 q1 = v)) (hv : decide (0 < v) = b) : Calls Tryz.prog 125 #[Value.agg #[.int .i64 3, .int .i64 p1, .int .i64 q1, .bool false, .slice A1 0 c1, .slice C1 0 d1, .int .i64 0], Value.agg #[.int .i64 4, .int .i64 0, .int .i64 0, .bool g2, .slice A2 n2 c2, .slice C2 0 d2, .int .i64 0]] w (fun e w' => e = .returned (.bool b) ∧ Plus w w') := by
  go_enter Tryz.func125, Tryz.ntmps125
  go_wp2_with (first | (go_at_call_of 174 (Value.int IntKind.i64 5); (with_reducible refine (both_v (b := false) (by decide) _).mono ?_); rintro e w1 ⟨rfl, ⟨x5, rfl⟩⟩) | (go_at_call_of 174 (Value.int IntKind.i64 3); (with_reducible refine (both_v (b := false) (by decide) _).mono ?_); rintro e w1 ⟨rfl, ⟨x3, rfl⟩⟩) | (go_at_call_of 174 (Value.int IntKind.i64 4); (with_reducible refine (both_v (b := false) (by decide) _).mono ?_); rintro e w1 ⟨rfl, ⟨x4, rfl⟩⟩) | (go_at_call 177; (with_reducible refine (comp_v hb hq _ (h2.out.offs (by repeat (first | (refine Offp.of ?_; (repeat' (first | exact Offs.refl _ | refine Offs.plus ?_ _ | refine Offs.alloc ?_ _ | exact Offs.allocN (Offs.refl _) (nuV _ _ _ _ _ _ _ _ _ _ _ _) | refine Offs.allocN ?_ (nuV _ _ _ _ _ _ _ _ _ _ _ _) | refine Offs.allocN ?_ (nuB _ _ _ _ _) | refine Offs.allocN ?_ (nuN _ _ _) | refine Offs.drew ?_ | refine Offs.drewL ?_ | refine Offs.drewR ?_)); done) | refine Offp.plusR ?_ _ | refine Offp.allocR ?_ _ | refine Offp.drewR ?_)))).mono ?_); rintro e w1 ⟨rfl, ⟨y1, rfl⟩⟩))
  go_returns
  exact ⟨rfl, (by repeat' (first | exact Plus.refl _ | refine Plus.alloc ?_ _ | refine Plus.plus ?_ _ | refine Plus.drew ?_ | refine Plus.drewN ?_ _))⟩
end Go.Proofs.YtgljfgkkolfnbaaGreatDoor
