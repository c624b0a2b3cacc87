/- A slice stands though a box turns; unsigned, hasOnly, bigOfDigits, cloned. -/
import Derived.Test.YtakahpbondaidaaGreatDoorZK
import Derived.Test.YtakahpbondaidaaGreatDoorZH
import Derived.Test.YtakahpbondaidaaGreatDoorZE
namespace Go.Proofs.YtakahpbondaidaaGreatDoor
open Go.RowKit

/-- Two worlds that differ in blocks that hold no cell of kind k. -/
def NoK (k : IntKind) (o : Obj) : Prop := ∃ cs e z, o = .cells cs e z ∧ ∀ v ∈ cs, ∀ y, v ≠ .int k y
def Off (k : IntKind) (W1 W2 : World) : Prop := W1.heap.size = W2.heap.size ∧ ∀ b : Nat, W2.heap[b]? = W1.heap[b]? ∨ ∃ o, W1.heap[b]? = some o ∧ NoK k o
theorem Off.refl (k : IntKind) (w : World) : Off k w w := ⟨rfl, fun _ => .inl rfl⟩
theorem Off.allocN {k : IntKind} {W1 W2 : World} {o o' : Obj} (h : Off k W1 W2) (ho : NoK k o) : Off k (W1.alloc o) (W2.alloc o') := by
  refine ⟨by rw [World.size_alloc, World.size_alloc, h.1], fun b => ?_⟩
  simp only [World.alloc, Array.getElem?_push, h.1]
  by_cases hb : b = W2.heap.size
  · rw [if_pos hb, if_pos hb]; exact .inr ⟨o, rfl, ho⟩
  · rw [if_neg hb, if_neg hb]; exact h.2 b
theorem Off.alloc {k : IntKind} {W1 W2 : World} (h : Off k W1 W2) (o : Obj) : Off k (W1.alloc o) (W2.alloc o) := by
  refine ⟨by rw [World.size_alloc, World.size_alloc, h.1], fun b => ?_⟩
  simp only [World.alloc, Array.getElem?_push, h.1]
  by_cases hb : b = W2.heap.size
  · rw [if_pos hb, if_pos hb]; exact .inl rfl
  · rw [if_neg hb, if_neg hb]; exact h.2 b
theorem Off.plus {k : IntKind} {W1 W2 : World} (h : Off k W1 W2) (x : More) : Off k (_root_.Go.Proofs.YtakahpbondaidaaGreatDoor.plus W1 x) (_root_.Go.Proofs.YtakahpbondaidaaGreatDoor.plus W2 x) := by
  refine ⟨by rw [size_plus, size_plus, h.1], fun b => ?_⟩
  simp only [_root_.Go.Proofs.YtakahpbondaidaaGreatDoor.plus]
  by_cases hb : b < W1.heap.size
  · rw [Array.getElem?_append_left hb, Array.getElem?_append_left (by rw [← h.1]; exact hb)]; exact h.2 b
  · have h1 := h.1
    rw [Array.getElem?_append_right (by omega), Array.getElem?_append_right (by omega), h1]; exact .inl rfl
theorem Off.drew {k : IntKind} {W1 W2 : World} (h : Off k W1 W2) : Off k W1.drew W2.drew := h
theorem Rd.off {k : IntKind} {W1 W2 : World} {A : Option Addr} {xs : List Nat} (h : Rd k W1 A xs) (o : Off k W1 W2) : Rd k W2 A xs := fun h0 => by
  obtain ⟨g, p, rfl, hg, ha⟩ := h h0
  refine ⟨g, p, rfl, by rw [← o.1]; exact hg, fun j hj => ?_⟩
  rcases o.2 g with e | ⟨ob, hob, cs, t, z, rfl, hc⟩
  · rw [World.cell?_of_block (w := W1) e]; exact ha j hj
  · exfalso
    have q := ha j hj
    rw [cell_of_row W1 g (p + j) cs t z hob] at q
    exact hc _ (Array.mem_of_getElem? q) _ rfl
theorem Ar.off {k : IntKind} {K : Nat} {W1 W2 : World} {A : Option Addr} {xs : List Nat} {n c : Nat} (h : Ar k K W1 A xs n c) (o : Off k W1 W2) : Ar k K W2 A xs n c := ⟨h.rd.off o, h.len, h.cap, h.max, h.bd⟩
theorem arg_off {W1 W2 : World} {A : Option Addr} {xs : List Nat} {n c : Nat} (h : Bg.Arg W1 A xs n c) (o : Off .u32 W1 W2) : Bg.Arg W2 A xs n c :=
  ⟨⟨h.lim.1, (lim_rd ((rd_lim h.lim).off o) h.lim.1).2⟩, h.len, h.few, h.cap, h.max⟩
theorem noB (b : Bool) (A : Option Addr) (n c : Nat) (e : TypeId) : NoK .u32 (.cells #[.bool b, .slice A n c] e) := ⟨_, _, _, rfl, by simp⟩
theorem noV (k p q : Int) (g : Bool) (A C : Option Addr) (n c m d : Nat) (r : Int) (e : TypeId) : NoK .u32 (.cells #[.int .i64 k, .int .i64 p, .int .i64 q, .bool g, .slice A n c, .slice C m d, .int .i64 r] e) := ⟨_, _, _, rfl, by simp⟩
theorem noN (k p : Int) (e : TypeId) : NoK .u32 (.cells #[.int .i64 k, .int .i64 p] e) := ⟨_, _, _, rfl, by simp⟩
/-- A BigInt that comes with a signal. -/
def BgP (pb : Bool) (us : List Nat) (s : Int) (w : World) (e : Ending) (w' : World) : Prop :=
  ∃ (A : Option Addr) (c : Nat), e = .returned (.tuple #[.agg #[.bool pb, .slice A us.length c], .int .i64 s]) ∧ Bg.Arg w' A us us.length c ∧ Plus w w'
theorem trimL_v {s c : ByteArray} {T : List UInt8} (h : Hid (Lib.trimLeftS s.data.toList c.data.toList = T)) (w : World) (hc : c.size < 4294967281) (ha : ∀ (j : Nat) b, c.data.toList[j]? = some b → b.toNat < 128) :
    Calls Tryz.prog 196 #[.string s, .string c] w fun e w' => e = .returned (.string (str T)) ∧ Plus w w' := by
  have := trimLeft_c s c w hc ha
  rw [h.out] at this
  exact this
theorem z48 : ∀ (j : Nat) b, (⟨#[48]⟩ : ByteArray).data.toList[j]? = some b → b.toNat < 128 := asc_get (l := [48]) (by intro x hx; simp at hx; subst hx; decide)
theorem clone32_n {A : Option Addr} {xs : List Nat} {n c : Nat} (w : World) (h : Bg.Arg w A xs n c) : Calls Tryz.prog 102 #[.slice A n c] w fun e w' => ∃ (D : Option Addr) (k : Nat), e = .returned (.slice D n k) ∧ Bg.Arg w' D xs n k ∧ Plus w w' := by
  refine (Bg.clone_c A xs n c w h.lim h.len h.few).mono ?_
  rintro e w' ⟨v, rfl, ho, hb⟩
  obtain ⟨D, k, rfl, h1, h2, h3⟩ := rd_of_own (k := .u32) ho
  have hn := h.len
  subst hn
  exact ⟨D, k, rfl, ⟨lim_rd h3 h.lim.1, rfl, h.few, h1, h2⟩, Plus.of_below hb⟩
set_option maxRecDepth 100000 in
set_option maxHeartbeats 4000000 in
theorem cloned_v {g : Bool} {A : Option Addr} {xs : List Nat} {n c : Nat} (w : World) (h : Hid (Bg.Arg w A xs n c)) : Calls Tryz.prog 48 #[.agg #[.bool g, .slice A n c]] w fun e w' => ∃ (D : Option Addr) (k : Nat), e = .returned (.agg #[.bool g, .slice D n k]) ∧ Bg.Arg w' D xs n k ∧ Plus w w' := by
  go_enter Tryz.func48, Tryz.ntmps48
  go_wp2_with fail
  go_region_with (go_at_call 102; (with_reducible refine (clone32_n _ (h.out.plus (by repeat' (first | exact Plus.refl _ | refine Plus.alloc ?_ _ | refine Plus.plus ?_ _ | refine Plus.drew ?_ | refine Plus.drewN ?_ _)))).mono ?_); rintro e w1 ⟨D, k, rfl, hD, ⟨x1, rfl⟩⟩; have HD := Lib.hid hD; clear hD)
  all_goals go_wp2_with fail
  all_goals go_returns
  all_goals
    have q := HD.out
    (try simp only [plus_drew] at q)
    exact ⟨D, k, rfl, arg_off q (by repeat' (first | exact Off.refl _ _ | refine Off.plus ?_ _ | refine Off.alloc ?_ _ | exact Off.allocN (Off.refl _ _) (noB _ _ _ _ _) | exact Off.allocN (Off.refl _ _) (noV _ _ _ _ _ _ _ _ _ _ _ _) | refine Off.allocN ?_ (noB _ _ _ _ _) | refine Off.allocN ?_ (noV _ _ _ _ _ _ _ _ _ _ _ _) | refine Off.drew ?_)), (by repeat' (first | exact Plus.refl _ | refine Plus.alloc ?_ _ | refine Plus.plus ?_ _ | refine Plus.drew ?_ | refine Plus.drewN ?_ _))⟩
end Go.Proofs.YtakahpbondaidaaGreatDoor
namespace Go.Proofs.YtakahpbondaidaaGreatDoor
open Go.RowKit

set_option maxRecDepth 100000 in
theorem cunsigned_c (l : List UInt8) (w : World) : Calls Tryz.prog 107 #[.string (str l)] w fun e w' => e = .returned (.tuple #[.string (str (unsT l)), .bool (Lib.hasPrefix l [45])]) ∧ w = w' := by
  have hcp : ∀ w : World, Calls Tryz.prog 194 #[.string (str l), .string ⟨#[45]⟩] w fun e w' => e = .returned (.tuple #[.string (str (Lib.trimPrefix l [45])), .bool (Lib.hasPrefix l [45])]) ∧ w = w' := fun w => cutPrefix_c (str l) ⟨#[45]⟩ w
  have htp : ∀ w : World, Calls Tryz.prog 195 #[.string (str l), .string ⟨#[43]⟩] w fun e w' => e = .returned (.string (str (Lib.trimPrefix l [43]))) ∧ w = w' := fun w => trimPrefix_c (str l) ⟨#[43]⟩ w
  obtain ⟨u, hu⟩ : ∃ u, unsT l = u := ⟨_, rfl⟩
  obtain ⟨a, ha⟩ : ∃ a, Lib.trimPrefix l [45] = a := ⟨_, rfl⟩
  obtain ⟨c, hc⟩ : ∃ c, Lib.trimPrefix l [43] = c := ⟨_, rfl⟩
  obtain ⟨b, hb⟩ : ∃ b, Lib.hasPrefix l [45] = b := ⟨_, rfl⟩
  have hU : u = if b then a else c := by rw [← hu, ← ha, ← hc, ← hb]; rfl
  rw [ha, hb] at hcp
  rw [hc] at htp
  rw [hb, hu]
  clear hu ha hc hb
  have HU := Lib.hid hU
  clear hU
  have HC := Lib.hid hcp
  have HT := Lib.hid htp
  clear hcp htp
  cases b
  · go_enter Tryz.func107, Tryz.ntmps107
    go_wp2_with (first
      | (go_at_call 194; refine (HC.out _).mono ?_; rintro e w1 ⟨rfl, rfl⟩)
      | (go_at_call 195; refine (HT.out _).mono ?_; rintro e w1 ⟨rfl, rfl⟩))
    go_returns
    refine ⟨?_, rfl⟩
    rw [HU.out]
    rfl
  · go_enter Tryz.func107, Tryz.ntmps107
    go_wp2_with (first
      | (go_at_call 194; refine (HC.out _).mono ?_; rintro e w1 ⟨rfl, rfl⟩))
    go_returns
    refine ⟨?_, rfl⟩
    rw [HU.out]
    rfl
theorem chasOnly_c (l s : List UInt8) (w : World) (hl : l.length ≤ 1099511627776) (hs : s.length ≤ 1048576) (ha : asc s) (b : Bool) (hb : Hid (decide (Lib.trimS l s = []) = b)) : Calls Tryz.prog 108 #[.string (str l), .string (str s)] w fun e w' => e = .returned (.bool b) ∧ Plus w w' := by
  have htr : ∀ w : World, Calls Tryz.prog 106 #[.string (str l), .string (str s)] w fun e w' => e = .returned (.string (str (Lib.trimS l s))) ∧ Plus w w' := fun w => trim_c (str l) (str s) w (by rw [str_size]; omega) (by rw [str_size]; omega) (asc_get ha)
  have HT := Lib.hid htr
  clear htr
  have e1 : ((str (Lib.trimS l s)).toList == []) = b := by rw [str_list, ← hb.out, Bool.eq_iff_iff]; simp
  have e2 : (str (Lib.trimS l s)).toList.isEmpty = b := by rw [← e1]; cases (str (Lib.trimS l s)).toList <;> rfl
  go_enter Tryz.func108, Tryz.ntmps108
  go_wp2_with (go_at_call 106; refine (HT.out _).mono ?_; rintro e w1 ⟨rfl, ⟨x1, rfl⟩⟩)
  go_ret
  exact ⟨rfl, (by repeat' (first | exact Plus.refl _ | refine Plus.alloc ?_ _ | refine Plus.plus ?_ _ | refine Plus.drew ?_ | refine Plus.drewN ?_ _))⟩
theorem bparse_v {s : ByteArray} {pb : Bool} {us : List Nat} {r er : Int} (hr : Hid (Bg.ParN r er s pb us)) (w : World) : Calls Tryz.prog 197 #[.string s] w fun e w' => ∃ (A1 : Option Addr) (c1 : Nat), e = .returned (.tuple #[.agg #[.bool pb, .slice A1 us.length c1], .int .i64 er]) ∧ Bg.Arg w' A1 us us.length c1 ∧ Plus w w' := Bg.parse_n hr w
set_option maxRecDepth 100000 in
set_option maxHeartbeats 4000000 in
theorem bod_0 {l : List UInt8} (hT : Hid (Lib.trimLeftS (str l).data.toList (⟨#[48]⟩ : ByteArray).data.toList = [])) (w : World) : Calls Tryz.prog 109 #[.string (str l)] w (BgP false [] 0 w) := by
  have b0 : ((str []).toList == []) = true := by rw [str_list]; rfl
  have b1 : (str []).toList = [] := str_list _
  go_enter Tryz.func109, Tryz.ntmps109
  go_wp2_with (go_at_call 196; (with_reducible refine (trimL_v hT _ (by decide) z48).mono ?_); rintro e w1 ⟨rfl, ⟨x1, rfl⟩⟩)
  go_returns
  exact ⟨none, 0, rfl, Bg.arg_nil, (by repeat' (first | exact Plus.refl _ | refine Plus.alloc ?_ _ | refine Plus.plus ?_ _ | refine Plus.drew ?_ | refine Plus.drewN ?_ _))⟩
set_option maxRecDepth 100000 in
set_option maxHeartbeats 4000000 in
theorem bod_e {l T : List UInt8} {pb : Bool} {us : List Nat} {r er : Int} (hT : Hid (Lib.trimLeftS (str l).data.toList (⟨#[48]⟩ : ByteArray).data.toList = T)) (hne : Hid (T ≠ [])) (hr : Hid (Bg.ParN r er (str T) pb us)) (he : (er != 0) = true) (w : World) : Calls Tryz.prog 109 #[.string (str l)] w (BgP false [] 3 w) := by
  obtain ⟨b0, b1, b2⟩ := str_ne hne.out
  go_enter Tryz.func109, Tryz.ntmps109
  go_wp2_with (first | (go_at_call 196; (with_reducible refine (trimL_v hT _ (by decide) z48).mono ?_); rintro e w1 ⟨rfl, ⟨x1, rfl⟩⟩) | (go_at_call 197; (with_reducible refine (bparse_v hr _).mono ?_); rintro e w2 ⟨A1, c1, rfl, hA, ⟨x2, rfl⟩⟩; have HA := Lib.hid hA; clear hA))
  go_returns
  exact ⟨none, 0, rfl, Bg.arg_nil, (by repeat' (first | exact Plus.refl _ | refine Plus.alloc ?_ _ | refine Plus.plus ?_ _ | refine Plus.drew ?_ | refine Plus.drewN ?_ _))⟩
set_option maxRecDepth 100000 in
set_option maxHeartbeats 4000000 in
theorem bod_y {l T : List UInt8} {pb : Bool} {us : List Nat} {r : Int} (hT : Hid (Lib.trimLeftS (str l).data.toList (⟨#[48]⟩ : ByteArray).data.toList = T)) (hne : Hid (T ≠ [])) (hr : Hid (Bg.ParN r 0 (str T) pb us)) (w : World) : Calls Tryz.prog 109 #[.string (str l)] w (BgP pb us 0 w) := by
  obtain ⟨b0, b1, b2⟩ := str_ne hne.out
  go_enter Tryz.func109, Tryz.ntmps109
  go_wp2_with (first | (go_at_call 196; (with_reducible refine (trimL_v hT _ (by decide) z48).mono ?_); rintro e w1 ⟨rfl, ⟨x1, rfl⟩⟩) | (go_at_call 197; (with_reducible refine (bparse_v hr _).mono ?_); rintro e w2 ⟨A1, c1, rfl, hA, ⟨x2, rfl⟩⟩; have HA := Lib.hid hA; clear hA))
  go_returns
  exact ⟨A1, c1, rfl, arg_off (HA.out.plus (Plus.alloc (Plus.refl _) (.cells #[.bool pb, .slice A1 us.length c1] 26))) (by repeat' (first | exact Off.refl _ _ | refine Off.plus ?_ _ | refine Off.alloc ?_ _ | exact Off.allocN (Off.refl _ _) (noB _ _ _ _ _) | exact Off.allocN (Off.refl _ _) (noV _ _ _ _ _ _ _ _ _ _ _ _) | refine Off.allocN ?_ (noB _ _ _ _ _) | refine Off.allocN ?_ (noV _ _ _ _ _ _ _ _ _ _ _ _) | refine Off.drew ?_)), (by repeat' (first | exact Plus.refl _ | refine Plus.alloc ?_ _ | refine Plus.plus ?_ _ | refine Plus.drew ?_ | refine Plus.drewN ?_ _))⟩
end Go.Proofs.YtakahpbondaidaaGreatDoor
namespace Go.Proofs.YtakahpbondaidaaGreatDoor
open Go.RowKit

def pfxS : List UInt8 := [48, 49, 50, 51, 52, 53, 54, 55, 56, 57, 97, 98, 99, 100, 101, 102, 65, 66, 67, 68, 69, 70, 120, 88, 111, 79]
theorem pfx_asc : asc pfxS := by unfold asc pfxS; decide
/-- A BigInt and a signal. -/
structure G2 where
  z : Int
  s : Int
def bgD (l : List UInt8) : G2 :=
  if Lib.trimLeftS l [48] = [] then ⟨0, 0⟩ else if Bg.parE (Lib.trimLeftS l [48]) = 0 then ⟨Bg.parI (Lib.trimLeftS l [48]), 0⟩ else ⟨0, 3⟩
theorem par_lt (l : List UInt8) : (Bg.parI l).natAbs < Bg.B ^ 8 := by
  have hB : 0 < Bg.B ^ 8 := by rw [Bg.B_eq]; decide
  unfold Bg.parI
  cases hr : Bg.rd l with
  | form => simpa using hB
  | long => simpa using hB
  | is n =>
    simp only
    unfold Bg.rd at hr
    simp only at hr
    generalize (if (l.head? == some 45) = true then l.tail else l) = d at hr
    by_cases h1 : Bg.isCnt d = false ∨ (l.head? == some 45) = true ∧ d = [48]
    · rw [if_pos h1] at hr; cases hr
    · rw [if_neg h1] at hr
      by_cases h2 : Bg.B ^ 8 ≤ Bg.num d
      · rw [if_pos h2] at hr; cases hr
      · rw [if_neg h2] at hr
        injection hr with hr
        subst hr
        split <;> omega
theorem bod_c (l : List UInt8) (hl : l.length ≤ 1000000) (w : World) {pb : Bool} {us : List Nat} {z s : Int} (hz : Hid (bgD l = ⟨z, s⟩)) (hN : Hid (Bg.Nm z pb us)) : Calls Tryz.prog 109 #[.string (str l)] w (BgP pb us s w) := by
  have q := hz.out
  have hN' := hN.out
  unfold bgD at q
  have nil0 : ∀ {pb : Bool} {us : List Nat}, Bg.Nm 0 pb us → pb = false ∧ us = [] := fun h => ⟨h.neg.symm, h.mag.symm.trans Bg.dig_zero⟩
  by_cases h0 : Lib.trimLeftS l [48] = []
  · rw [if_pos h0] at q
    injection q with q1 q2
    subst q1 q2
    obtain ⟨rfl, rfl⟩ := nil0 hN'
    exact bod_0 (Lib.hid (by rw [str_data]; exact h0)) w
  · rw [if_neg h0] at q
    have hsub : (Lib.trimLeftS l [48]).length ≤ l.length := (trimL_sub l [48]).length_le
    by_cases h1 : Bg.parE (Lib.trimLeftS l [48]) = 0
    · rw [if_pos h1] at q
      injection q with q1 q2
      subst q1 q2
      exact bod_y (Lib.hid (by rw [str_data])) (Lib.hid h0) (Lib.hid ⟨hN', by rw [str_data], by rw [str_data]; exact h1, by rw [str_size]; omega⟩) w
    · rw [if_neg h1] at q
      injection q with q1 q2
      subst q1 q2
      obtain ⟨rfl, rfl⟩ := nil0 hN'
      exact bod_e (Lib.hid (by rw [str_data])) (Lib.hid h0) (Lib.hid ⟨Bg.Nm.mk' (par_lt _), by rw [str_data], by rw [str_data], by rw [str_size]; omega⟩) (by simp [h1]) w
set_option maxRecDepth 100000 in
set_option maxHeartbeats 4000000 in
theorem bigof_l {A : Option Addr} {xs : List Nat} {n c : Nat} (w : World) (h : Hid (Ar .u16 65536 w A xs n c)) (hs : n ≤ 4096) (hl : Hid (low xs = false)) : Calls Tryz.prog 52 #[.slice A n c] w (BgP false [] 5 w) := by
  go_enter Tryz.func52, Tryz.ntmps52
  go_wp2_with (go_at_call 105; refine (plain_c _ _ _ _ _ (h.out.plus (by repeat' (first | exact Plus.refl _ | refine Plus.alloc ?_ _ | refine Plus.plus ?_ _ | refine Plus.drew ?_ | refine Plus.drewN ?_ _))) (by omega)).mono ?_; rintro e w1 ⟨rfl, ⟨x1, rfl⟩⟩; rw [hl.out])
  go_returns
  exact ⟨none, 0, rfl, Bg.arg_nil, (by repeat' (first | exact Plus.refl _ | refine Plus.alloc ?_ _ | refine Plus.plus ?_ _ | refine Plus.drew ?_ | refine Plus.drewN ?_ _))⟩
set_option maxRecDepth 100000 in
set_option maxHeartbeats 4000000 in
theorem bigof_0 {A : Option Addr} {xs : List Nat} {n c : Nat} (w : World) (h : Hid (Ar .u16 65536 w A xs n c)) (hs : n ≤ 4096) (hl : Hid (low xs = true)) (hT : Hid (Lib.trimS (plS xs).data.toList (⟨#[32, 9, 10, 13]⟩ : ByteArray).data.toList = [])) (hz : (plS xs).size ≤ 1048576) : Calls Tryz.prog 52 #[.slice A n c] w (BgP false [] 0 w) := by
  have b0 : ((str []).toList == []) = true := by rw [str_list]; rfl
  have b1 : (str []).toList = [] := str_list _
  have hu := cunsigned_c []
  have HU := Lib.hid hu
  clear hu
  go_enter Tryz.func52, Tryz.ntmps52
  go_wp2_with (first | (go_at_call 105; refine (plain_c _ _ _ _ _ (h.out.plus (by repeat' (first | exact Plus.refl _ | refine Plus.alloc ?_ _ | refine Plus.plus ?_ _ | refine Plus.drew ?_ | refine Plus.drewN ?_ _))) (by omega)).mono ?_; rintro e w1 ⟨rfl, ⟨x1, rfl⟩⟩; rw [hl.out]) | (go_at_call 106; refine (trim_n hT _ (by omega) (by decide) blank_asc).mono ?_; rintro e w1 ⟨rfl, ⟨x2, rfl⟩⟩) | (go_at_call 107; refine (HU.out _).mono ?_; rintro e w1 ⟨rfl, rfl⟩))
  go_returns
  exact ⟨none, 0, rfl, Bg.arg_nil, (by repeat' (first | exact Plus.refl _ | refine Plus.alloc ?_ _ | refine Plus.plus ?_ _ | refine Plus.drew ?_ | refine Plus.drewN ?_ _))⟩
theorem bneg_v {an : Bool} {A : Option Addr} {xs : List Nat} {n c : Nat} {a r : Int} {pb : Bool} {us : List Nat} (hA : Hid (Bg.bigI an xs = a)) (hr : Hid (Bg.NegN a r pb us)) (w : World) (ha : Bg.Arg w A xs n c) : Calls Tryz.prog 110 #[.agg #[.bool an, .slice A n c]] w fun e w' => ∃ (A1 : Option Addr) (c1 : Nat), e = .returned (.agg #[.bool pb, .slice A1 us.length c1]) ∧ Bg.Arg w' A1 us us.length c1 ∧ Plus w w' := Bg.neg_n hA hr w ha
set_option maxRecDepth 100000 in
set_option maxHeartbeats 4000000 in
theorem bigof_p {A : Option Addr} {xs : List Nat} {n c : Nat} (w : World) (h : Hid (Ar .u16 65536 w A xs n c)) (hs : n ≤ 4096) (hl : Hid (low xs = true)) {T : List UInt8} (hT : Hid (Lib.trimS (plS xs).data.toList (⟨#[32, 9, 10, 13]⟩ : ByteArray).data.toList = T)) (hz : (plS xs).size ≤ 1048576) (hne : Hid (T ≠ [])) {Z : List UInt8} (hZ : Hid (unsT T = Z)) (hb : Hid (Lib.hasPrefix T [45] = false)) (hzl : Z.length ≤ 1000000) (hzn : Hid (Z ≠ [])) (hd : Hid (decide (Lib.trimS Z digS = []) = true)) {pb : Bool} {us : List Nat} {z s : Int} (hG : Hid (bgD Z = ⟨z, s⟩)) (hN : Hid (Bg.Nm z pb us)) : Calls Tryz.prog 52 #[.slice A n c] w (BgP pb us s w) := by
  obtain ⟨t1, t2, t3⟩ := str_ne hne.out
  obtain ⟨z1, z2, z3⟩ := str_ne hzn.out
  have hu := cunsigned_c T
  rw [hZ.out, hb.out] at hu
  have HU := Lib.hid hu
  clear hu
  have hho : ∀ w : World, Calls Tryz.prog 108 #[.string (str Z), .string ⟨#[48, 49, 50, 51, 52, 53, 54, 55, 56, 57]⟩] w fun e w' => e = .returned (.bool true) ∧ Plus w w' := fun w => chasOnly_c Z digS w (by omega) (by decide) dig_asc true hd
  have HH := Lib.hid hho
  clear hho
  go_enter Tryz.func52, Tryz.ntmps52
  go_wp2_with (first | (go_at_call 105; refine (plain_c _ _ _ _ _ (h.out.plus (by repeat' (first | exact Plus.refl _ | refine Plus.alloc ?_ _ | refine Plus.plus ?_ _ | refine Plus.drew ?_ | refine Plus.drewN ?_ _))) (by omega)).mono ?_; rintro e w1 ⟨rfl, ⟨x1, rfl⟩⟩; rw [hl.out]) | (go_at_call 106; refine (trim_n hT _ (by omega) (by decide) blank_asc).mono ?_; rintro e w1 ⟨rfl, ⟨x2, rfl⟩⟩) | (go_at_call 107; refine (HU.out _).mono ?_; rintro e w1 ⟨rfl, rfl⟩) | (go_at_call_of 108 (Value.string (str Z)); refine (HH.out _).mono ?_; rintro e w1 ⟨rfl, ⟨x3, rfl⟩⟩) | (go_at_call 109; (with_reducible refine (bod_c Z hzl _ hG hN).mono ?_); rintro e w1 ⟨A1, c1, rfl, hA, ⟨x4, rfl⟩⟩; have HA := Lib.hid hA; clear hA))
  go_returns
  exact ⟨A1, c1, rfl, arg_off (HA.out.plus (Plus.alloc (Plus.refl _) (.cells #[.bool pb, .slice A1 us.length c1] 26))) (by repeat' (first | exact Off.refl _ _ | refine Off.plus ?_ _ | refine Off.alloc ?_ _ | exact Off.allocN (Off.refl _ _) (noB _ _ _ _ _) | exact Off.allocN (Off.refl _ _) (noV _ _ _ _ _ _ _ _ _ _ _ _) | refine Off.allocN ?_ (noB _ _ _ _ _) | refine Off.allocN ?_ (noV _ _ _ _ _ _ _ _ _ _ _ _) | refine Off.drew ?_)), (by repeat' (first | exact Plus.refl _ | refine Plus.alloc ?_ _ | refine Plus.plus ?_ _ | refine Plus.drew ?_ | refine Plus.drewN ?_ _))⟩
set_option maxRecDepth 100000 in
set_option maxHeartbeats 4000000 in
theorem bigof_m {A : Option Addr} {xs : List Nat} {n c : Nat} (w : World) (h : Hid (Ar .u16 65536 w A xs n c)) (hs : n ≤ 4096) (hl : Hid (low xs = true)) {T : List UInt8} (hT : Hid (Lib.trimS (plS xs).data.toList (⟨#[32, 9, 10, 13]⟩ : ByteArray).data.toList = T)) (hz : (plS xs).size ≤ 1048576) (hne : Hid (T ≠ [])) {Z : List UInt8} (hZ : Hid (unsT T = Z)) (hb : Hid (Lib.hasPrefix T [45] = true)) (hzl : Z.length ≤ 1000000) (hzn : Hid (Z ≠ [])) (hd : Hid (decide (Lib.trimS Z digS = []) = true)) {pb pc : Bool} {us vs : List Nat} {z y s : Int} (hG : Hid (bgD Z = ⟨z, s⟩)) (hN : Hid (Bg.Nm z pb us)) (hV : Hid (Bg.bigI pb us = z)) (hM : Hid (Bg.NegN z y pc vs)) : Calls Tryz.prog 52 #[.slice A n c] w (BgP pc vs s w) := by
  obtain ⟨t1, t2, t3⟩ := str_ne hne.out
  obtain ⟨z1, z2, z3⟩ := str_ne hzn.out
  have hu := cunsigned_c T
  rw [hZ.out, hb.out] at hu
  have HU := Lib.hid hu
  clear hu
  have hho : ∀ w : World, Calls Tryz.prog 108 #[.string (str Z), .string ⟨#[48, 49, 50, 51, 52, 53, 54, 55, 56, 57]⟩] w fun e w' => e = .returned (.bool true) ∧ Plus w w' := fun w => chasOnly_c Z digS w (by omega) (by decide) dig_asc true hd
  have HH := Lib.hid hho
  clear hho
  go_enter Tryz.func52, Tryz.ntmps52
  go_wp2_with (first | (go_at_call 105; refine (plain_c _ _ _ _ _ (h.out.plus (by repeat' (first | exact Plus.refl _ | refine Plus.alloc ?_ _ | refine Plus.plus ?_ _ | refine Plus.drew ?_ | refine Plus.drewN ?_ _))) (by omega)).mono ?_; rintro e w1 ⟨rfl, ⟨x1, rfl⟩⟩; rw [hl.out]) | (go_at_call 106; refine (trim_n hT _ (by omega) (by decide) blank_asc).mono ?_; rintro e w1 ⟨rfl, ⟨x2, rfl⟩⟩) | (go_at_call 107; refine (HU.out _).mono ?_; rintro e w1 ⟨rfl, rfl⟩) | (go_at_call_of 108 (Value.string (str Z)); refine (HH.out _).mono ?_; rintro e w1 ⟨rfl, ⟨x3, rfl⟩⟩) | (go_at_call 109; (with_reducible refine (bod_c Z hzl _ hG hN).mono ?_); rintro e w1 ⟨A1, c1, rfl, hA, ⟨x4, rfl⟩⟩; have HA := Lib.hid hA; clear hA) | (go_at_call 110; (with_reducible refine (bneg_v hV hM _ (by have q := HA.out.plus (Plus.alloc (Plus.refl _) (.cells #[.bool pb, .slice A1 us.length c1] 26)); exact q)).mono ?_); rintro e w1 ⟨A2, c2, rfl, hA2, ⟨x5, rfl⟩⟩; have HA2 := Lib.hid hA2; clear hA2))
  go_returns
  exact ⟨A2, c2, rfl, arg_off HA2.out (by repeat' (first | exact Off.refl _ _ | refine Off.plus ?_ _ | refine Off.alloc ?_ _ | exact Off.allocN (Off.refl _ _) (noB _ _ _ _ _) | exact Off.allocN (Off.refl _ _) (noV _ _ _ _ _ _ _ _ _ _ _ _) | refine Off.allocN ?_ (noB _ _ _ _ _) | refine Off.allocN ?_ (noV _ _ _ _ _ _ _ _ _ _ _ _) | refine Off.drew ?_)), (by repeat' (first | exact Plus.refl _ | refine Plus.alloc ?_ _ | refine Plus.plus ?_ _ | refine Plus.drew ?_ | refine Plus.drewN ?_ _))⟩
set_option maxRecDepth 100000 in
set_option maxHeartbeats 4000000 in
theorem bigof_efc {A : Option Addr} {xs : List Nat} {n c : Nat} (w : World) (h : Hid (Ar .u16 65536 w A xs n c)) (hs : n ≤ 4096) (hl : Hid (low xs = true)) {T : List UInt8} (hT : Hid (Lib.trimS (plS xs).data.toList (⟨#[32, 9, 10, 13]⟩ : ByteArray).data.toList = T)) (hz : (plS xs).size ≤ 1048576) (hne : Hid (T ≠ [])) {Z : List UInt8} (hZ : Hid (unsT T = Z)) {b : Bool} (hb : Hid (Lib.hasPrefix T [45] = b)) (hzl : Z.length ≤ 1000000) (hze : Hid (Z = [])) (htl : T.length ≤ 1048576) (hta : asc T) {c2 : Bool} (h1 : Hid (Lib.containsAny T digS = false)) (h2 : Hid (decide (Lib.trimS T pfxS = []) = c2)) : Calls Tryz.prog 52 #[.slice A n c] w (BgP false [] 5 w) := by
  have hu := cunsigned_c T
  rw [hZ.out, hb.out] at hu
  have HU := Lib.hid hu
  clear hu
  have hca : ∀ w : World, Calls Tryz.prog 111 #[.string (str T), .string ⟨#[48, 49, 50, 51, 52, 53, 54, 55, 56, 57]⟩] w fun e w' => e = .returned (.bool false) ∧ Plus w w' := fun w => by
    have q := containsAny_c (str T) (str digS) w (by rw [str_size]; omega) (by decide) (asc_get hta) (asc_get dig_asc)
    rw [str_data, str_data, h1.out] at q
    exact q
  have HC := Lib.hid hca
  have hkk : ∀ w : World, Calls Tryz.prog 108 #[.string (str T), .string ⟨#[48, 49, 50, 51, 52, 53, 54, 55, 56, 57, 97, 98, 99, 100, 101, 102, 65, 66, 67, 68, 69, 70, 120, 88, 111, 79]⟩] w fun e w' => e = .returned (.bool c2) ∧ Plus w w' := fun w => chasOnly_c T pfxS w (by omega) (by decide) pfx_asc c2 h2
  have HK := Lib.hid hkk
  obtain ⟨t1, t2, t3⟩ := str_ne hne.out
  clear hca hkk
  obtain rfl := hze.out
  have b0 : ((str []).toList == []) = true := by rw [str_list]; rfl
  have b1 : (str []).toList = [] := str_list _
  go_enter Tryz.func52, Tryz.ntmps52
  go_wp2_with (first | (go_at_call 105; refine (plain_c _ _ _ _ _ (h.out.plus (by repeat' (first | exact Plus.refl _ | refine Plus.alloc ?_ _ | refine Plus.plus ?_ _ | refine Plus.drew ?_ | refine Plus.drewN ?_ _))) (by omega)).mono ?_; rintro e w1 ⟨rfl, ⟨x1, rfl⟩⟩; rw [hl.out]) | (go_at_call 106; refine (trim_n hT _ (by omega) (by decide) blank_asc).mono ?_; rintro e w1 ⟨rfl, ⟨x2, rfl⟩⟩) | (go_at_call 107; refine (HU.out _).mono ?_; rintro e w1 ⟨rfl, rfl⟩) | (go_at_call 111; refine (HC.out _).mono ?_; rintro e w1 ⟨rfl, ⟨x6, rfl⟩⟩) | (go_at_call_of 108 (Value.string ⟨#[48, 49, 50, 51, 52, 53, 54, 55, 56, 57, 97, 98, 99, 100, 101, 102, 65, 66, 67, 68, 69, 70, 120, 88, 111, 79]⟩); refine (HK.out _).mono ?_; rintro e w1 ⟨rfl, ⟨x7, rfl⟩⟩))
  go_returns
  exact ⟨none, 0, rfl, Bg.arg_nil, (by repeat' (first | exact Plus.refl _ | refine Plus.alloc ?_ _ | refine Plus.plus ?_ _ | refine Plus.drew ?_ | refine Plus.drewN ?_ _))⟩
set_option maxRecDepth 100000 in
set_option maxHeartbeats 4000000 in
theorem bigof_etf {A : Option Addr} {xs : List Nat} {n c : Nat} (w : World) (h : Hid (Ar .u16 65536 w A xs n c)) (hs : n ≤ 4096) (hl : Hid (low xs = true)) {T : List UInt8} (hT : Hid (Lib.trimS (plS xs).data.toList (⟨#[32, 9, 10, 13]⟩ : ByteArray).data.toList = T)) (hz : (plS xs).size ≤ 1048576) (hne : Hid (T ≠ [])) {Z : List UInt8} (hZ : Hid (unsT T = Z)) {b : Bool} (hb : Hid (Lib.hasPrefix T [45] = b)) (hzl : Z.length ≤ 1000000) (hze : Hid (Z = [])) (htl : T.length ≤ 1048576) (hta : asc T) (h1 : Hid (Lib.containsAny T digS = true)) (h2 : Hid (decide (Lib.trimS T pfxS = []) = false)) : Calls Tryz.prog 52 #[.slice A n c] w (BgP false [] 5 w) := by
  have hu := cunsigned_c T
  rw [hZ.out, hb.out] at hu
  have HU := Lib.hid hu
  clear hu
  have hca : ∀ w : World, Calls Tryz.prog 111 #[.string (str T), .string ⟨#[48, 49, 50, 51, 52, 53, 54, 55, 56, 57]⟩] w fun e w' => e = .returned (.bool true) ∧ Plus w w' := fun w => by
    have q := containsAny_c (str T) (str digS) w (by rw [str_size]; omega) (by decide) (asc_get hta) (asc_get dig_asc)
    rw [str_data, str_data, h1.out] at q
    exact q
  have HC := Lib.hid hca
  have hkk : ∀ w : World, Calls Tryz.prog 108 #[.string (str T), .string ⟨#[48, 49, 50, 51, 52, 53, 54, 55, 56, 57, 97, 98, 99, 100, 101, 102, 65, 66, 67, 68, 69, 70, 120, 88, 111, 79]⟩] w fun e w' => e = .returned (.bool false) ∧ Plus w w' := fun w => chasOnly_c T pfxS w (by omega) (by decide) pfx_asc false h2
  have HK := Lib.hid hkk
  obtain ⟨t1, t2, t3⟩ := str_ne hne.out
  clear hca hkk
  obtain rfl := hze.out
  have b0 : ((str []).toList == []) = true := by rw [str_list]; rfl
  have b1 : (str []).toList = [] := str_list _
  go_enter Tryz.func52, Tryz.ntmps52
  go_wp2_with (first | (go_at_call 105; refine (plain_c _ _ _ _ _ (h.out.plus (by repeat' (first | exact Plus.refl _ | refine Plus.alloc ?_ _ | refine Plus.plus ?_ _ | refine Plus.drew ?_ | refine Plus.drewN ?_ _))) (by omega)).mono ?_; rintro e w1 ⟨rfl, ⟨x1, rfl⟩⟩; rw [hl.out]) | (go_at_call 106; refine (trim_n hT _ (by omega) (by decide) blank_asc).mono ?_; rintro e w1 ⟨rfl, ⟨x2, rfl⟩⟩) | (go_at_call 107; refine (HU.out _).mono ?_; rintro e w1 ⟨rfl, rfl⟩) | (go_at_call 111; refine (HC.out _).mono ?_; rintro e w1 ⟨rfl, ⟨x6, rfl⟩⟩) | (go_at_call_of 108 (Value.string ⟨#[48, 49, 50, 51, 52, 53, 54, 55, 56, 57, 97, 98, 99, 100, 101, 102, 65, 66, 67, 68, 69, 70, 120, 88, 111, 79]⟩); refine (HK.out _).mono ?_; rintro e w1 ⟨rfl, ⟨x7, rfl⟩⟩))
  go_returns
  exact ⟨none, 0, rfl, Bg.arg_nil, (by repeat' (first | exact Plus.refl _ | refine Plus.alloc ?_ _ | refine Plus.plus ?_ _ | refine Plus.drew ?_ | refine Plus.drewN ?_ _))⟩
set_option maxRecDepth 100000 in
set_option maxHeartbeats 4000000 in
theorem bigof_ett {A : Option Addr} {xs : List Nat} {n c : Nat} (w : World) (h : Hid (Ar .u16 65536 w A xs n c)) (hs : n ≤ 4096) (hl : Hid (low xs = true)) {T : List UInt8} (hT : Hid (Lib.trimS (plS xs).data.toList (⟨#[32, 9, 10, 13]⟩ : ByteArray).data.toList = T)) (hz : (plS xs).size ≤ 1048576) (hne : Hid (T ≠ [])) {Z : List UInt8} (hZ : Hid (unsT T = Z)) {b : Bool} (hb : Hid (Lib.hasPrefix T [45] = b)) (hzl : Z.length ≤ 1000000) (hze : Hid (Z = [])) (htl : T.length ≤ 1048576) (hta : asc T) (h1 : Hid (Lib.containsAny T digS = true)) (h2 : Hid (decide (Lib.trimS T pfxS = []) = true)) : Calls Tryz.prog 52 #[.slice A n c] w (BgP false [] 3 w) := by
  have hu := cunsigned_c T
  rw [hZ.out, hb.out] at hu
  have HU := Lib.hid hu
  clear hu
  have hca : ∀ w : World, Calls Tryz.prog 111 #[.string (str T), .string ⟨#[48, 49, 50, 51, 52, 53, 54, 55, 56, 57]⟩] w fun e w' => e = .returned (.bool true) ∧ Plus w w' := fun w => by
    have q := containsAny_c (str T) (str digS) w (by rw [str_size]; omega) (by decide) (asc_get hta) (asc_get dig_asc)
    rw [str_data, str_data, h1.out] at q
    exact q
  have HC := Lib.hid hca
  have hkk : ∀ w : World, Calls Tryz.prog 108 #[.string (str T), .string ⟨#[48, 49, 50, 51, 52, 53, 54, 55, 56, 57, 97, 98, 99, 100, 101, 102, 65, 66, 67, 68, 69, 70, 120, 88, 111, 79]⟩] w fun e w' => e = .returned (.bool true) ∧ Plus w w' := fun w => chasOnly_c T pfxS w (by omega) (by decide) pfx_asc true h2
  have HK := Lib.hid hkk
  obtain ⟨t1, t2, t3⟩ := str_ne hne.out
  clear hca hkk
  obtain rfl := hze.out
  have b0 : ((str []).toList == []) = true := by rw [str_list]; rfl
  have b1 : (str []).toList = [] := str_list _
  go_enter Tryz.func52, Tryz.ntmps52
  go_wp2_with (first | (go_at_call 105; refine (plain_c _ _ _ _ _ (h.out.plus (by repeat' (first | exact Plus.refl _ | refine Plus.alloc ?_ _ | refine Plus.plus ?_ _ | refine Plus.drew ?_ | refine Plus.drewN ?_ _))) (by omega)).mono ?_; rintro e w1 ⟨rfl, ⟨x1, rfl⟩⟩; rw [hl.out]) | (go_at_call 106; refine (trim_n hT _ (by omega) (by decide) blank_asc).mono ?_; rintro e w1 ⟨rfl, ⟨x2, rfl⟩⟩) | (go_at_call 107; refine (HU.out _).mono ?_; rintro e w1 ⟨rfl, rfl⟩) | (go_at_call 111; refine (HC.out _).mono ?_; rintro e w1 ⟨rfl, ⟨x6, rfl⟩⟩) | (go_at_call_of 108 (Value.string ⟨#[48, 49, 50, 51, 52, 53, 54, 55, 56, 57, 97, 98, 99, 100, 101, 102, 65, 66, 67, 68, 69, 70, 120, 88, 111, 79]⟩); refine (HK.out _).mono ?_; rintro e w1 ⟨rfl, ⟨x7, rfl⟩⟩))
  go_returns
  exact ⟨none, 0, rfl, Bg.arg_nil, (by repeat' (first | exact Plus.refl _ | refine Plus.alloc ?_ _ | refine Plus.plus ?_ _ | refine Plus.drew ?_ | refine Plus.drewN ?_ _))⟩
set_option maxRecDepth 100000 in
set_option maxHeartbeats 4000000 in
theorem bigof_nfc {A : Option Addr} {xs : List Nat} {n c : Nat} (w : World) (h : Hid (Ar .u16 65536 w A xs n c)) (hs : n ≤ 4096) (hl : Hid (low xs = true)) {T : List UInt8} (hT : Hid (Lib.trimS (plS xs).data.toList (⟨#[32, 9, 10, 13]⟩ : ByteArray).data.toList = T)) (hz : (plS xs).size ≤ 1048576) (hne : Hid (T ≠ [])) {Z : List UInt8} (hZ : Hid (unsT T = Z)) {b : Bool} (hb : Hid (Lib.hasPrefix T [45] = b)) (hzl : Z.length ≤ 1000000) (hzn : Hid (Z ≠ [])) (hd : Hid (decide (Lib.trimS Z digS = []) = false)) (htl : T.length ≤ 1048576) (hta : asc T) {c2 : Bool} (h1 : Hid (Lib.containsAny T digS = false)) (h2 : Hid (decide (Lib.trimS T pfxS = []) = c2)) : Calls Tryz.prog 52 #[.slice A n c] w (BgP false [] 5 w) := by
  have hu := cunsigned_c T
  rw [hZ.out, hb.out] at hu
  have HU := Lib.hid hu
  clear hu
  have hca : ∀ w : World, Calls Tryz.prog 111 #[.string (str T), .string ⟨#[48, 49, 50, 51, 52, 53, 54, 55, 56, 57]⟩] w fun e w' => e = .returned (.bool false) ∧ Plus w w' := fun w => by
    have q := containsAny_c (str T) (str digS) w (by rw [str_size]; omega) (by decide) (asc_get hta) (asc_get dig_asc)
    rw [str_data, str_data, h1.out] at q
    exact q
  have HC := Lib.hid hca
  have hkk : ∀ w : World, Calls Tryz.prog 108 #[.string (str T), .string ⟨#[48, 49, 50, 51, 52, 53, 54, 55, 56, 57, 97, 98, 99, 100, 101, 102, 65, 66, 67, 68, 69, 70, 120, 88, 111, 79]⟩] w fun e w' => e = .returned (.bool c2) ∧ Plus w w' := fun w => chasOnly_c T pfxS w (by omega) (by decide) pfx_asc c2 h2
  have HK := Lib.hid hkk
  obtain ⟨t1, t2, t3⟩ := str_ne hne.out
  clear hca hkk
  obtain ⟨z1, z2, z3⟩ := str_ne hzn.out
  have hho : ∀ w : World, Calls Tryz.prog 108 #[.string (str Z), .string ⟨#[48, 49, 50, 51, 52, 53, 54, 55, 56, 57]⟩] w fun e w' => e = .returned (.bool false) ∧ Plus w w' := fun w => chasOnly_c Z digS w (by omega) (by decide) dig_asc false hd
  have HH := Lib.hid hho
  clear hho
  go_enter Tryz.func52, Tryz.ntmps52
  go_wp2_with (first | (go_at_call 105; refine (plain_c _ _ _ _ _ (h.out.plus (by repeat' (first | exact Plus.refl _ | refine Plus.alloc ?_ _ | refine Plus.plus ?_ _ | refine Plus.drew ?_ | refine Plus.drewN ?_ _))) (by omega)).mono ?_; rintro e w1 ⟨rfl, ⟨x1, rfl⟩⟩; rw [hl.out]) | (go_at_call 106; refine (trim_n hT _ (by omega) (by decide) blank_asc).mono ?_; rintro e w1 ⟨rfl, ⟨x2, rfl⟩⟩) | (go_at_call 107; refine (HU.out _).mono ?_; rintro e w1 ⟨rfl, rfl⟩) | (go_at_call_of 108 (Value.string ⟨#[48, 49, 50, 51, 52, 53, 54, 55, 56, 57]⟩); refine (HH.out _).mono ?_; rintro e w1 ⟨rfl, ⟨x3, rfl⟩⟩) | (go_at_call 111; refine (HC.out _).mono ?_; rintro e w1 ⟨rfl, ⟨x6, rfl⟩⟩) | (go_at_call_of 108 (Value.string ⟨#[48, 49, 50, 51, 52, 53, 54, 55, 56, 57, 97, 98, 99, 100, 101, 102, 65, 66, 67, 68, 69, 70, 120, 88, 111, 79]⟩); refine (HK.out _).mono ?_; rintro e w1 ⟨rfl, ⟨x7, rfl⟩⟩))
  go_returns
  exact ⟨none, 0, rfl, Bg.arg_nil, (by repeat' (first | exact Plus.refl _ | refine Plus.alloc ?_ _ | refine Plus.plus ?_ _ | refine Plus.drew ?_ | refine Plus.drewN ?_ _))⟩
set_option maxRecDepth 100000 in
set_option maxHeartbeats 4000000 in
theorem bigof_ntf {A : Option Addr} {xs : List Nat} {n c : Nat} (w : World) (h : Hid (Ar .u16 65536 w A xs n c)) (hs : n ≤ 4096) (hl : Hid (low xs = true)) {T : List UInt8} (hT : Hid (Lib.trimS (plS xs).data.toList (⟨#[32, 9, 10, 13]⟩ : ByteArray).data.toList = T)) (hz : (plS xs).size ≤ 1048576) (hne : Hid (T ≠ [])) {Z : List UInt8} (hZ : Hid (unsT T = Z)) {b : Bool} (hb : Hid (Lib.hasPrefix T [45] = b)) (hzl : Z.length ≤ 1000000) (hzn : Hid (Z ≠ [])) (hd : Hid (decide (Lib.trimS Z digS = []) = false)) (htl : T.length ≤ 1048576) (hta : asc T) (h1 : Hid (Lib.containsAny T digS = true)) (h2 : Hid (decide (Lib.trimS T pfxS = []) = false)) : Calls Tryz.prog 52 #[.slice A n c] w (BgP false [] 5 w) := by
  have hu := cunsigned_c T
  rw [hZ.out, hb.out] at hu
  have HU := Lib.hid hu
  clear hu
  have hca : ∀ w : World, Calls Tryz.prog 111 #[.string (str T), .string ⟨#[48, 49, 50, 51, 52, 53, 54, 55, 56, 57]⟩] w fun e w' => e = .returned (.bool true) ∧ Plus w w' := fun w => by
    have q := containsAny_c (str T) (str digS) w (by rw [str_size]; omega) (by decide) (asc_get hta) (asc_get dig_asc)
    rw [str_data, str_data, h1.out] at q
    exact q
  have HC := Lib.hid hca
  have hkk : ∀ w : World, Calls Tryz.prog 108 #[.string (str T), .string ⟨#[48, 49, 50, 51, 52, 53, 54, 55, 56, 57, 97, 98, 99, 100, 101, 102, 65, 66, 67, 68, 69, 70, 120, 88, 111, 79]⟩] w fun e w' => e = .returned (.bool false) ∧ Plus w w' := fun w => chasOnly_c T pfxS w (by omega) (by decide) pfx_asc false h2
  have HK := Lib.hid hkk
  obtain ⟨t1, t2, t3⟩ := str_ne hne.out
  clear hca hkk
  obtain ⟨z1, z2, z3⟩ := str_ne hzn.out
  have hho : ∀ w : World, Calls Tryz.prog 108 #[.string (str Z), .string ⟨#[48, 49, 50, 51, 52, 53, 54, 55, 56, 57]⟩] w fun e w' => e = .returned (.bool false) ∧ Plus w w' := fun w => chasOnly_c Z digS w (by omega) (by decide) dig_asc false hd
  have HH := Lib.hid hho
  clear hho
  go_enter Tryz.func52, Tryz.ntmps52
  go_wp2_with (first | (go_at_call 105; refine (plain_c _ _ _ _ _ (h.out.plus (by repeat' (first | exact Plus.refl _ | refine Plus.alloc ?_ _ | refine Plus.plus ?_ _ | refine Plus.drew ?_ | refine Plus.drewN ?_ _))) (by omega)).mono ?_; rintro e w1 ⟨rfl, ⟨x1, rfl⟩⟩; rw [hl.out]) | (go_at_call 106; refine (trim_n hT _ (by omega) (by decide) blank_asc).mono ?_; rintro e w1 ⟨rfl, ⟨x2, rfl⟩⟩) | (go_at_call 107; refine (HU.out _).mono ?_; rintro e w1 ⟨rfl, rfl⟩) | (go_at_call_of 108 (Value.string ⟨#[48, 49, 50, 51, 52, 53, 54, 55, 56, 57]⟩); refine (HH.out _).mono ?_; rintro e w1 ⟨rfl, ⟨x3, rfl⟩⟩) | (go_at_call 111; refine (HC.out _).mono ?_; rintro e w1 ⟨rfl, ⟨x6, rfl⟩⟩) | (go_at_call_of 108 (Value.string ⟨#[48, 49, 50, 51, 52, 53, 54, 55, 56, 57, 97, 98, 99, 100, 101, 102, 65, 66, 67, 68, 69, 70, 120, 88, 111, 79]⟩); refine (HK.out _).mono ?_; rintro e w1 ⟨rfl, ⟨x7, rfl⟩⟩))
  go_returns
  exact ⟨none, 0, rfl, Bg.arg_nil, (by repeat' (first | exact Plus.refl _ | refine Plus.alloc ?_ _ | refine Plus.plus ?_ _ | refine Plus.drew ?_ | refine Plus.drewN ?_ _))⟩
set_option maxRecDepth 100000 in
set_option maxHeartbeats 4000000 in
theorem bigof_ntt {A : Option Addr} {xs : List Nat} {n c : Nat} (w : World) (h : Hid (Ar .u16 65536 w A xs n c)) (hs : n ≤ 4096) (hl : Hid (low xs = true)) {T : List UInt8} (hT : Hid (Lib.trimS (plS xs).data.toList (⟨#[32, 9, 10, 13]⟩ : ByteArray).data.toList = T)) (hz : (plS xs).size ≤ 1048576) (hne : Hid (T ≠ [])) {Z : List UInt8} (hZ : Hid (unsT T = Z)) {b : Bool} (hb : Hid (Lib.hasPrefix T [45] = b)) (hzl : Z.length ≤ 1000000) (hzn : Hid (Z ≠ [])) (hd : Hid (decide (Lib.trimS Z digS = []) = false)) (htl : T.length ≤ 1048576) (hta : asc T) (h1 : Hid (Lib.containsAny T digS = true)) (h2 : Hid (decide (Lib.trimS T pfxS = []) = true)) : Calls Tryz.prog 52 #[.slice A n c] w (BgP false [] 3 w) := by
  have hu := cunsigned_c T
  rw [hZ.out, hb.out] at hu
  have HU := Lib.hid hu
  clear hu
  have hca : ∀ w : World, Calls Tryz.prog 111 #[.string (str T), .string ⟨#[48, 49, 50, 51, 52, 53, 54, 55, 56, 57]⟩] w fun e w' => e = .returned (.bool true) ∧ Plus w w' := fun w => by
    have q := containsAny_c (str T) (str digS) w (by rw [str_size]; omega) (by decide) (asc_get hta) (asc_get dig_asc)
    rw [str_data, str_data, h1.out] at q
    exact q
  have HC := Lib.hid hca
  have hkk : ∀ w : World, Calls Tryz.prog 108 #[.string (str T), .string ⟨#[48, 49, 50, 51, 52, 53, 54, 55, 56, 57, 97, 98, 99, 100, 101, 102, 65, 66, 67, 68, 69, 70, 120, 88, 111, 79]⟩] w fun e w' => e = .returned (.bool true) ∧ Plus w w' := fun w => chasOnly_c T pfxS w (by omega) (by decide) pfx_asc true h2
  have HK := Lib.hid hkk
  obtain ⟨t1, t2, t3⟩ := str_ne hne.out
  clear hca hkk
  obtain ⟨z1, z2, z3⟩ := str_ne hzn.out
  have hho : ∀ w : World, Calls Tryz.prog 108 #[.string (str Z), .string ⟨#[48, 49, 50, 51, 52, 53, 54, 55, 56, 57]⟩] w fun e w' => e = .returned (.bool false) ∧ Plus w w' := fun w => chasOnly_c Z digS w (by omega) (by decide) dig_asc false hd
  have HH := Lib.hid hho
  clear hho
  go_enter Tryz.func52, Tryz.ntmps52
  go_wp2_with (first | (go_at_call 105; refine (plain_c _ _ _ _ _ (h.out.plus (by repeat' (first | exact Plus.refl _ | refine Plus.alloc ?_ _ | refine Plus.plus ?_ _ | refine Plus.drew ?_ | refine Plus.drewN ?_ _))) (by omega)).mono ?_; rintro e w1 ⟨rfl, ⟨x1, rfl⟩⟩; rw [hl.out]) | (go_at_call 106; refine (trim_n hT _ (by omega) (by decide) blank_asc).mono ?_; rintro e w1 ⟨rfl, ⟨x2, rfl⟩⟩) | (go_at_call 107; refine (HU.out _).mono ?_; rintro e w1 ⟨rfl, rfl⟩) | (go_at_call_of 108 (Value.string ⟨#[48, 49, 50, 51, 52, 53, 54, 55, 56, 57]⟩); refine (HH.out _).mono ?_; rintro e w1 ⟨rfl, ⟨x3, rfl⟩⟩) | (go_at_call 111; refine (HC.out _).mono ?_; rintro e w1 ⟨rfl, ⟨x6, rfl⟩⟩) | (go_at_call_of 108 (Value.string ⟨#[48, 49, 50, 51, 52, 53, 54, 55, 56, 57, 97, 98, 99, 100, 101, 102, 65, 66, 67, 68, 69, 70, 120, 88, 111, 79]⟩); refine (HK.out _).mono ?_; rintro e w1 ⟨rfl, ⟨x7, rfl⟩⟩))
  go_returns
  exact ⟨none, 0, rfl, Bg.arg_nil, (by repeat' (first | exact Plus.refl _ | refine Plus.alloc ?_ _ | refine Plus.plus ?_ _ | refine Plus.drew ?_ | refine Plus.drewN ?_ _))⟩
end Go.Proofs.YtakahpbondaidaaGreatDoor
namespace Go.Proofs.YtakahpbondaidaaGreatDoor
open Go.RowKit
theorem cloned_h {g : Bool} {A : Option Addr} {xs : List Nat} {n c : Nat} (w : World) (h : Bg.Arg w A xs n c) : Calls Tryz.prog 48 #[.agg #[.bool g, .slice A n c]] w fun e w' => ∃ (D : Option Addr) (k : Nat), e = .returned (.agg #[.bool g, .slice D n k]) ∧ Bg.Arg w' D xs n k ∧ Plus w w' := cloned_v w (Lib.hid h)

set_option maxRecDepth 100000 in
set_option maxHeartbeats 1000000 in
theorem refLimbs_c (A C : Option Addr) (xs ys : List Nat) (n c m d : Nat) (w : World) (ha : Ar .u32 4294967296 w A xs n c) (hb : Ar .u32 4294967296 w C ys m d) :
    Calls Tryz.prog 56 #[.slice A n c, .slice C m d] w fun e w' => e = .returned (.bool (decide (xs = ys))) ∧ Plus w w' := by
  obtain ⟨hrd, hlen, hcap, hmax, hbd⟩ := ha
  obtain ⟨krd, klen, kcap, kmax, kbd⟩ := hb
  subst hlen klen
  by_cases hl : xs.length = ys.length
  · have b1 : ((xs.length : Int) != (ys.length : Int)) = false := by simp [hl]
    have HL := Lib.hid hl
    clear hl
    go_enter Tryz.func56, Tryz.ntmps56
    go_wp2
    go_loopw [5] (fun s13 wr => EqRel5 xs ys s13 ∧ Plus w wr) (fun s13 _ => ((xs.length : Int) - intOf s13).toNat)
    case atStart => exact ⟨⟨0, by omega, rfl, rfl⟩, Plus.refl _⟩
    case round =>
      obtain ⟨⟨k, hk, rfl, he⟩, hp⟩ := hrel
      by_cases hlt : k < xs.length
      · obtain ⟨g, o, rfl, hg, hat⟩ := hrd.at_ hlt
        have hlt2 : k < ys.length := by rw [← HL.out]; exact hlt
        obtain ⟨g2, o2, rfl, hg2, hat2⟩ := krd.at_ hlt2
        have hcell := hat.plus hg hp k hlt
        have hcell2 := hat2.plus hg2 hp k hlt2
        have hadd := add_addr g o k
        have hadd2 := add_addr g2 o2 k
        have HE := Lib.hid he
        have HP := Lib.hid hp
        clear he hat hat2 hp
        obtain ⟨v, hv⟩ : ∃ v, xs.getD k 0 = v := ⟨_, rfl⟩
        obtain ⟨u, hu⟩ : ∃ u, ys.getD k 0 = u := ⟨_, rfl⟩
        rw [hv] at hcell
        rw [hu] at hcell2
        have HV := Lib.hid hv
        have HU := Lib.hid hu
        clear hv hu
        by_cases hvu : v = u
        · subst hvu
          have HT := Lib.hid (take_ext HE.out hlt hlt2 (by rw [HV.out, HU.out]))
          go_wp2_with fail
          go_quiet (fail)
          go_wp2_with fail
          go_roundw
          case rel => exact ⟨⟨k + 1, hlt, by rw [show ((k + 1 : Nat) : Int) = (k : Int) + 1 by omega], HT.out⟩, HP.out.drewN _⟩
          case measure => simp [intOf]; omega
        · have b2 : ((v : Int) != (u : Int)) = true := by simp; omega
          have HN : Hid (decide (xs = ys) = false) := Lib.hid (by simp; intro e; subst e; exact hvu (HV.out.symm.trans HU.out))
          go_wp2_with fail
          go_quiet (fail)
          go_wp2_with fail
          go_ret
          exact ⟨by rw [HN.out]; rfl, HP.out.drewN _⟩
      · obtain rfl : k = xs.length := by omega
        have HR : Hid (decide (xs = ys) = true) := Lib.hid (by
          rw [List.take_length, HL.out, List.take_length] at he
          simpa using he)
        have HP := Lib.hid hp
        clear he hp
        go_wp2_with fail
        go_ret
        exact ⟨by rw [HR.out]; rfl, HP.out⟩
  · have b1 : ((xs.length : Int) != (ys.length : Int)) = true := by simp; omega
    have HN : Hid (decide (xs = ys) = false) := Lib.hid (by simp; intro e; subst e; exact hl rfl)
    go_enter Tryz.func56, Tryz.ntmps56
    go_wp2
    go_ret
    exact ⟨by rw [HN.out]; rfl, Plus.refl _⟩


theorem rlimbs_v {A C : Option Addr} {xs ys : List Nat} {n c m d : Nat} {b : Bool} (h : Hid (decide (xs = ys) = b)) (w : World) (ha : Bg.Arg w A xs n c) (hb : Bg.Arg w C ys m d) :
    Calls Tryz.prog 56 #[.slice A n c, .slice C m d] w fun e w' => e = .returned (.bool b) ∧ Plus w w' := by
  rw [← h.out]
  exact refLimbs_c A C xs ys n c m d w (ar_arg ha) (ar_arg hb)
def SelfL (xs : List Nat) : Prop := decide (xs = xs) = true
theorem selfL (xs : List Nat) : SelfL xs := by unfold SelfL; simp
theorem rlimbs_s {A C : Option Addr} {xs : List Nat} {n c m d : Nat} (h : SelfL xs) (w : World) (ha : Bg.Arg w A xs n c) (hb : Bg.Arg w C xs m d) :
    Calls Tryz.prog 56 #[.slice A n c, .slice C m d] w fun e w' => e = .returned (.bool true) ∧ Plus w w' := by
  have := refLimbs_c A C xs xs n c m d w (ar_arg ha) (ar_arg hb)
  rw [h] at this
  exact this
set_option maxRecDepth 100000 in
set_option maxHeartbeats 4000000 in
theorem rbig_s {g : Bool} {A C : Option Addr} {xs : List Nat} {n c m d : Nat} (h : SelfL xs) (w : World) (ha : Hid (Bg.Arg w A xs n c)) (hb : Hid (Bg.Arg w C xs m d)) :
    Calls Tryz.prog 18 #[.agg #[.bool g, .slice A n c], .agg #[.bool g, .slice C m d]] w fun e w' => e = .returned (.bool true) ∧ Plus w w' := by
  cases g
  · go_enter Tryz.func18, Tryz.ntmps18
    go_wp2_with (go_at_call 56; (with_reducible refine (rlimbs_s h _ (ha.out.plus (by repeat' (first | exact Plus.refl _ | refine Plus.alloc ?_ _ | refine Plus.plus ?_ _ | refine Plus.drew ?_ | refine Plus.drewN ?_ _))) (hb.out.plus (by repeat' (first | exact Plus.refl _ | refine Plus.alloc ?_ _ | refine Plus.plus ?_ _ | refine Plus.drew ?_ | refine Plus.drewN ?_ _)))).mono ?_); rintro e w1 ⟨rfl, ⟨x1, rfl⟩⟩)
    go_returns
    exact ⟨rfl, (by repeat' (first | exact Plus.refl _ | refine Plus.alloc ?_ _ | refine Plus.plus ?_ _ | refine Plus.drew ?_ | refine Plus.drewN ?_ _))⟩
  · go_enter Tryz.func18, Tryz.ntmps18
    go_wp2_with (go_at_call 56; (with_reducible refine (rlimbs_s h _ (ha.out.plus (by repeat' (first | exact Plus.refl _ | refine Plus.alloc ?_ _ | refine Plus.plus ?_ _ | refine Plus.drew ?_ | refine Plus.drewN ?_ _))) (hb.out.plus (by repeat' (first | exact Plus.refl _ | refine Plus.alloc ?_ _ | refine Plus.plus ?_ _ | refine Plus.drew ?_ | refine Plus.drewN ?_ _)))).mono ?_); rintro e w1 ⟨rfl, ⟨x1, rfl⟩⟩)
    go_returns
    exact ⟨rfl, (by repeat' (first | exact Plus.refl _ | refine Plus.alloc ?_ _ | refine Plus.plus ?_ _ | refine Plus.drew ?_ | refine Plus.drewN ?_ _))⟩
set_option maxRecDepth 100000 in
set_option maxHeartbeats 4000000 in
theorem numeric_y {k p q : Int} {g : Bool} {A C : Option Addr} {n c m d : Nat} {r : Int} {k2 p2 q2 : Int} {g2 : Bool} {A2 C2 : Option Addr} {n2 c2 m2 d2 : Nat} {r2 : Int} {x : JV} {a b : Int} (hJ : Hid (numJ x = ⟨a, b, 0⟩)) (w : World) (hL : Hid (Lai w)) (hv : Hid (Vld w (Value.agg #[.int .i64 k, .int .i64 p, .int .i64 q, .bool g, .slice A n c, .slice C m d, .int .i64 r]) (Value.agg #[.int .i64 k2, .int .i64 p2, .int .i64 q2, .bool g2, .slice A2 n2 c2, .slice C2 m2 d2, .int .i64 r2]))) (hn : Hid (NV w (Value.agg #[.int .i64 k2, .int .i64 p2, .int .i64 q2, .bool g2, .slice A2 n2 c2, .slice C2 m2 d2, .int .i64 r2]) x)) (b0 : (k2 == 4) = false) : Calls Tryz.prog 12 #[Value.agg #[.int .i64 k, .int .i64 p, .int .i64 q, .bool g, .slice A n c, .slice C m d, .int .i64 r]] w fun e w' => e = .returned (.tuple #[Value.agg #[.int .i64 3, .int .i64 a, .int .i64 b, .bool false, .slice none 0 0, .slice none 0 0, .int .i64 0], .int .i64 0]) ∧ Plus w w' := by
  go_enter Tryz.func12, Tryz.ntmps12
  go_wp2_with (first | (go_at_call 43; (with_reducible refine (Vld.call hv.out (by repeat' (first | exact Plus.refl _ | refine Plus.alloc ?_ _ | refine Plus.plus ?_ _ | refine Plus.drew ?_ | refine Plus.drewN ?_ _))).mono ?_); rintro e w1 ⟨rfl, ⟨x1, rfl⟩⟩) | (go_at_call 10; (with_reducible refine (cnumber_v hJ _ (hL.out.plus (by repeat' (first | exact Plus.refl _ | refine Plus.alloc ?_ _ | refine Plus.plus ?_ _ | refine Plus.drew ?_ | refine Plus.drewN ?_ _))) (hn.out.plus (by repeat' (first | exact Plus.refl _ | refine Plus.alloc ?_ _ | refine Plus.plus ?_ _ | refine Plus.drew ?_ | refine Plus.drewN ?_ _))) (hn.out.vld.plus (by repeat' (first | exact Plus.refl _ | refine Plus.alloc ?_ _ | refine Plus.plus ?_ _ | refine Plus.drew ?_ | refine Plus.drewN ?_ _)))).mono ?_); rintro e w1 ⟨rfl, ⟨x2, rfl⟩⟩) | (go_at_call 49; (with_reducible refine (cnum_n _).mono ?_); rintro e w1 ⟨rfl, ⟨x3, rfl⟩⟩))
  go_returns
  exact ⟨rfl, (by repeat' (first | exact Plus.refl _ | refine Plus.alloc ?_ _ | refine Plus.plus ?_ _ | refine Plus.drew ?_ | refine Plus.drewN ?_ _))⟩
set_option maxRecDepth 100000 in
set_option maxHeartbeats 4000000 in
theorem numeric_e {k p q : Int} {g : Bool} {A C : Option Addr} {n c m d : Nat} {r : Int} {k2 p2 q2 : Int} {g2 : Bool} {A2 C2 : Option Addr} {n2 c2 m2 d2 : Nat} {r2 : Int} {x : JV} {a b s : Int} (hJ : Hid (numJ x = ⟨a, b, s⟩)) (w : World) (hL : Hid (Lai w)) (hv : Hid (Vld w (Value.agg #[.int .i64 k, .int .i64 p, .int .i64 q, .bool g, .slice A n c, .slice C m d, .int .i64 r]) (Value.agg #[.int .i64 k2, .int .i64 p2, .int .i64 q2, .bool g2, .slice A2 n2 c2, .slice C2 m2 d2, .int .i64 r2]))) (hn : Hid (NV w (Value.agg #[.int .i64 k2, .int .i64 p2, .int .i64 q2, .bool g2, .slice A2 n2 c2, .slice C2 m2 d2, .int .i64 r2]) x)) (b0 : (k2 == 4) = false) (b1 : (s != 0) = true) : Calls Tryz.prog 12 #[Value.agg #[.int .i64 k, .int .i64 p, .int .i64 q, .bool g, .slice A n c, .slice C m d, .int .i64 r]] w fun e w' => e = .returned (.tuple #[Value.agg #[.int .i64 0, .int .i64 0, .int .i64 0, .bool false, .slice none 0 0, .slice none 0 0, .int .i64 0], .int .i64 s]) ∧ Plus w w' := by
  go_enter Tryz.func12, Tryz.ntmps12
  go_wp2_with (first | (go_at_call 43; (with_reducible refine (Vld.call hv.out (by repeat' (first | exact Plus.refl _ | refine Plus.alloc ?_ _ | refine Plus.plus ?_ _ | refine Plus.drew ?_ | refine Plus.drewN ?_ _))).mono ?_); rintro e w1 ⟨rfl, ⟨x1, rfl⟩⟩) | (go_at_call 10; (with_reducible refine (cnumber_v hJ _ (hL.out.plus (by repeat' (first | exact Plus.refl _ | refine Plus.alloc ?_ _ | refine Plus.plus ?_ _ | refine Plus.drew ?_ | refine Plus.drewN ?_ _))) (hn.out.plus (by repeat' (first | exact Plus.refl _ | refine Plus.alloc ?_ _ | refine Plus.plus ?_ _ | refine Plus.drew ?_ | refine Plus.drewN ?_ _))) (hn.out.vld.plus (by repeat' (first | exact Plus.refl _ | refine Plus.alloc ?_ _ | refine Plus.plus ?_ _ | refine Plus.drew ?_ | refine Plus.drewN ?_ _)))).mono ?_); rintro e w1 ⟨rfl, ⟨x2, rfl⟩⟩) | (go_at_call 49; (with_reducible refine (cnum_n _).mono ?_); rintro e w1 ⟨rfl, ⟨x3, rfl⟩⟩))
  go_returns
  exact ⟨rfl, (by repeat' (first | exact Plus.refl _ | refine Plus.alloc ?_ _ | refine Plus.plus ?_ _ | refine Plus.drew ?_ | refine Plus.drewN ?_ _))⟩
def NcB (g : Bool) (us : List Nat) (n : Nat) (w : World) (e : Ending) (w' : World) : Prop :=
  ∃ (A : Option Addr) (c : Nat), e = .returned (.tuple #[Value.agg #[.int .i64 4, .int .i64 0, .int .i64 0, .bool g, .slice A n c, .slice none 0 0, .int .i64 0], .int .i64 0]) ∧ Bg.Arg w' A us n c ∧ Plus w w'
set_option maxRecDepth 100000 in
set_option maxHeartbeats 4000000 in
theorem numeric_big {k p q : Int} {g : Bool} {A C : Option Addr} {n c m d : Nat} {r : Int} {g2 : Bool} {A2 C2 : Option Addr} {xs2 : List Nat} {n2 c2 d2 : Nat} (w : World) (hv : Hid (Vld w (Value.agg #[.int .i64 k, .int .i64 p, .int .i64 q, .bool g, .slice A n c, .slice C m d, .int .i64 r]) (Value.agg #[.int .i64 4, .int .i64 0, .int .i64 0, .bool g2, .slice A2 n2 c2, .slice C2 0 d2, .int .i64 0]))) (hb : Hid (Bg.Arg w A2 xs2 n2 c2)) : Calls Tryz.prog 12 #[Value.agg #[.int .i64 k, .int .i64 p, .int .i64 q, .bool g, .slice A n c, .slice C m d, .int .i64 r]] w (NcB g2 xs2 n2 w) := by
  go_enter Tryz.func12, Tryz.ntmps12
  go_wp2_with (first | (go_at_call 43; (with_reducible refine (Vld.call hv.out (by repeat' (first | exact Plus.refl _ | refine Plus.alloc ?_ _ | refine Plus.plus ?_ _ | refine Plus.drew ?_ | refine Plus.drewN ?_ _))).mono ?_); rintro e w1 ⟨rfl, ⟨x1, rfl⟩⟩) | (go_at_call 48; (with_reducible refine (cloned_h _ (hb.out.plus (by repeat' (first | exact Plus.refl _ | refine Plus.alloc ?_ _ | refine Plus.plus ?_ _ | refine Plus.drew ?_ | refine Plus.drewN ?_ _)))).mono ?_); rintro e w2 ⟨A1, c1, rfl, hA, ⟨x2, rfl⟩⟩; have HA := Lib.hid hA; clear hA))
  go_returns
  exact ⟨A1, c1, rfl, arg_off HA.out (by repeat' (first | exact Off.refl _ _ | refine Off.plus ?_ _ | refine Off.alloc ?_ _ | exact Off.allocN (Off.refl _ _) (noB _ _ _ _ _) | exact Off.allocN (Off.refl _ _) (noV _ _ _ _ _ _ _ _ _ _ _ _) | refine Off.allocN ?_ (noB _ _ _ _ _) | refine Off.allocN ?_ (noV _ _ _ _ _ _ _ _ _ _ _ _) | refine Off.drew ?_)), (by repeat' (first | exact Plus.refl _ | refine Plus.alloc ?_ _ | refine Plus.plus ?_ _ | refine Plus.drew ?_ | refine Plus.drewN ?_ _))⟩
theorem NV.kind {w : World} {v : Value} {x : JV} (h : NV w v x) (hb : ∀ z, x ≠ .big z) : ∃ (k p q : Int) (g : Bool) (A C : Option Addr) (n c m d : Nat) (r : Int), v = (Value.agg #[.int .i64 k, .int .i64 p, .int .i64 q, .bool g, .slice A n c, .slice C m d, .int .i64 r]) ∧ (k == 4) = false := by
  cases x with
  | undef => obtain ⟨A, C, c, d, rfl, _⟩ := h; exact ⟨_, _, _, _, _, _, _, _, _, _, _, rfl, rfl⟩
  | null => obtain ⟨A, C, c, d, rfl, _⟩ := h; exact ⟨_, _, _, _, _, _, _, _, _, _, _, rfl, rfl⟩
  | bool b => obtain ⟨A, C, c, d, rfl, _⟩ := h; exact ⟨_, _, _, _, _, _, _, _, _, _, _, rfl, rfl⟩
  | num p q => obtain ⟨A, C, c, d, rfl, _⟩ := h; exact ⟨_, _, _, _, _, _, _, _, _, _, _, rfl, rfl⟩
  | big z => exact absurd rfl (hb z)
  | text us => obtain ⟨A, C, c, m, d, rfl, _⟩ := h; exact ⟨_, _, _, _, _, _, _, _, _, _, _, rfl, rfl⟩
  | obj r => obtain ⟨A, C, c, d, rfl, _⟩ := h; exact ⟨_, _, _, _, _, _, _, _, _, _, _, rfl, rfl⟩
theorem cnumeric_y {k p q : Int} {g : Bool} {A C : Option Addr} {n c m d : Nat} {r : Int} {v' : Value} {x : JV} {a b : Int} (hJ : Hid (numJ x = ⟨a, b, 0⟩)) (hb : ∀ z, x ≠ .big z) (w : World) (hL : Lai w) (hn : NV w v' x) (hv : Vld w (Value.agg #[.int .i64 k, .int .i64 p, .int .i64 q, .bool g, .slice A n c, .slice C m d, .int .i64 r]) v') : Calls Tryz.prog 12 #[Value.agg #[.int .i64 k, .int .i64 p, .int .i64 q, .bool g, .slice A n c, .slice C m d, .int .i64 r]] w fun e w' => e = .returned (.tuple #[Value.agg #[.int .i64 3, .int .i64 a, .int .i64 b, .bool false, .slice none 0 0, .slice none 0 0, .int .i64 0], .int .i64 0]) ∧ Plus w w' := by
  obtain ⟨k2, p2, q2, g2, A2, C2, n2, c2, m2, d2, r2, rfl, hk⟩ := hn.kind hb
  exact numeric_y hJ w (Lib.hid hL) (Lib.hid hv) (Lib.hid hn) hk
theorem cnumeric_e {k p q : Int} {g : Bool} {A C : Option Addr} {n c m d : Nat} {r : Int} {v' : Value} {x : JV} {a b s : Int} (hJ : Hid (numJ x = ⟨a, b, s⟩)) (hb : ∀ z, x ≠ .big z) (hs : (s != 0) = true) (w : World) (hL : Lai w) (hn : NV w v' x) (hv : Vld w (Value.agg #[.int .i64 k, .int .i64 p, .int .i64 q, .bool g, .slice A n c, .slice C m d, .int .i64 r]) v') : Calls Tryz.prog 12 #[Value.agg #[.int .i64 k, .int .i64 p, .int .i64 q, .bool g, .slice A n c, .slice C m d, .int .i64 r]] w fun e w' => e = .returned (.tuple #[Value.agg #[.int .i64 0, .int .i64 0, .int .i64 0, .bool false, .slice none 0 0, .slice none 0 0, .int .i64 0], .int .i64 s]) ∧ Plus w w' := by
  obtain ⟨k2, p2, q2, g2, A2, C2, n2, c2, m2, d2, r2, rfl, hk⟩ := hn.kind hb
  exact numeric_e hJ w (Lib.hid hL) (Lib.hid hv) (Lib.hid hn) hk hs
theorem sgn_V {b : Bool} {k n : Int} (h : IsV k n) : IsV (sgnK b k n) (sgnN b k n) := by
  cases b
  · exact h
  · simp only [sgnK, sgnN, if_true, negR, vk_of h, vn_of h]
    rcases h with ⟨rfl, h1, h2⟩ | ⟨rfl, rfl⟩ | ⟨rfl, rfl⟩ | ⟨rfl, rfl⟩ | ⟨rfl, rfl⟩
    · unfold negS
      rw [if_neg (by decide), if_neg (by decide), if_neg (by decide), if_neg (by decide)]
      by_cases h0 : n = 0
      · rw [if_pos h0]; exact .inr (.inl ⟨rfl, rfl⟩)
      · rw [if_neg h0]; exact .inl ⟨rfl, by show -9007199254740991 ≤ -n; omega, by show -n ≤ 9007199254740991; omega⟩
    · exact .inl ⟨rfl, by decide, by decide⟩
    · exact .inr (.inr (.inl ⟨rfl, rfl⟩))
    · exact .inr (.inr (.inr (.inr ⟨rfl, rfl⟩)))
    · exact .inr (.inr (.inr (.inl ⟨rfl, rfl⟩)))
theorem ofS_V (n : Int) : IsV (ofS n).k (ofS n).n := by
  unfold ofS
  split
  · rename_i h; exact .inl ⟨rfl, h.1, h.2⟩
  · exact .inr (.inr (.inl ⟨rfl, rfl⟩))
theorem parS_V (l : List UInt8) : IsV (parS l).k (parS l).n := by
  unfold parS
  split
  · exact .inr (.inr (.inl ⟨rfl, rfl⟩))
  · split
    · exact .inr (.inr (.inr (.inl ⟨rfl, rfl⟩)))
    · split
      · exact .inr (.inr (.inr (.inr ⟨rfl, rfl⟩)))
      · split
        · split
          · exact ofS_V _
          · exact .inr (.inr (.inl ⟨rfl, rfl⟩))
        · exact .inr (.inr (.inl ⟨rfl, rfl⟩))
theorem numU_V (us : List Nat) : IsV (numU us).k (numU us).n := by
  unfold numU
  split
  · unfold numT
    split
    · exact .inl ⟨rfl, by decide, by decide⟩
    · split
      · split
        · exact .inr (.inr (.inr (.inr ⟨rfl, rfl⟩)))
        · exact .inr (.inr (.inr (.inl ⟨rfl, rfl⟩)))
      · split
        · exact sgn_V (parS_V _)
        · exact .inr (.inr (.inl ⟨rfl, rfl⟩))
  · exact .inr (.inr (.inl ⟨rfl, rfl⟩))
theorem numJ_V {x : JV} (h : okJ x) : IsV (numJ x).k (numJ x).n := by
  cases x with
  | num p q => exact h
  | text us =>
    show IsV (nofU us).k (nofU us).n
    unfold nofU
    split
    · exact numU_V us
    · exact .inl ⟨rfl, by decide, by decide⟩
  | bool b => exact .inl ⟨rfl, by cases b <;> decide, by cases b <;> decide⟩
  | undef => exact .inr (.inr (.inl ⟨rfl, rfl⟩))
  | null => exact .inl ⟨rfl, by decide, by decide⟩
  | big z => exact .inl ⟨rfl, by show (-9007199254740991 : Int) ≤ 0; decide, by show (0 : Int) ≤ 9007199254740991; decide⟩
  | obj r => exact .inl ⟨rfl, by show (-9007199254740991 : Int) ≤ 0; decide, by show (0 : Int) ≤ 9007199254740991; decide⟩
end Go.Proofs.YtakahpbondaidaaGreatDoor
namespace Go.Proofs.YtakahpbondaidaaGreatDoor
open Go.RowKit

def bgT (T : List UInt8) : G2 :=
  if T = [] then ⟨0, 0⟩
  else if unsT T ≠ [] ∧ Lib.trimS (unsT T) digS = [] then ⟨if Lib.hasPrefix T [45] then -(bgD (unsT T)).z else (bgD (unsT T)).z, (bgD (unsT T)).s⟩
  else if (Lib.containsAny T digS && decide (Lib.trimS T pfxS = [])) = true then ⟨0, 3⟩ else ⟨0, 5⟩
def bgU (us : List Nat) : G2 := if low us then bgT (Lib.trimS (us.map Nat.toUInt8) blankS) else ⟨0, 5⟩
theorem nm_zero {pb : Bool} {us : List Nat} (h : Bg.Nm 0 pb us) : pb = false ∧ us = [] := ⟨h.neg.symm, h.mag.symm.trans Bg.dig_zero⟩
theorem bgD_lt (l : List UInt8) : (bgD l).z.natAbs < Bg.B ^ 8 := by
  have hB : 0 < Bg.B ^ 8 := by rw [Bg.B_eq]; decide
  unfold bgD
  split
  · simpa using hB
  · split
    · exact par_lt _
    · simpa using hB
theorem plS_data {xs : List Nat} (h : low xs = true) : (plS xs).data.toList = xs.map Nat.toUInt8 := by unfold plS; rw [if_pos h]; simp [byts]
theorem bigOf_v {A : Option Addr} {us : List Nat} {n c : Nat} {z s : Int} {pb : Bool} {vs : List Nat} (hz : Hid (bgU us = ⟨z, s⟩)) (hN : Hid (Bg.Nm z pb vs)) (w : World) (h : Ar .u16 65536 w A us n c) (hs : n ≤ 4096) : Calls Tryz.prog 52 #[.slice A n c] w (BgP pb vs s w) := by
  have q := hz.out
  have hN' := hN.out
  unfold bgU at q
  by_cases hl : low us = true
  · rw [hl, if_pos rfl] at q
    have hsz : (plS us).size ≤ 1048576 := by
      have e : (plS us).size = (plS us).data.toList.length := (Array.length_toList).symm
      rw [e, plS_data hl, List.length_map, ← h.len]
      omega
    have hT : Lib.trimS (plS us).data.toList (⟨#[32, 9, 10, 13]⟩ : ByteArray).data.toList = Lib.trimS (us.map Nat.toUInt8) blankS := by rw [plS_data hl]; rfl
    have hsub := (trim_sub (us.map Nat.toUInt8) blankS)
    have hta : asc (Lib.trimS (us.map Nat.toUInt8) blankS) := fun x hx => low_asc hl x (hsub.subset hx)
    have htl : (Lib.trimS (us.map Nat.toUInt8) blankS).length ≤ 4096 := by have := hsub.length_le; rw [List.length_map, ← h.len] at this; omega
    generalize Lib.trimS (us.map Nat.toUInt8) blankS = T at q hT hta htl
    unfold bgT at q
    have hzl : (unsT T).length ≤ 4096 := Nat.le_trans (uns_sub T).length_le htl
    by_cases h0 : T = []
    · rw [if_pos h0] at q
      injection q with q1 q2
      subst q1 q2
      obtain ⟨rfl, rfl⟩ := nm_zero hN'
      rw [h0] at hT
      exact bigof_0 w (Lib.hid h) hs (Lib.hid hl) (Lib.hid hT) hsz
    · rw [if_neg h0] at q
      by_cases h1 : unsT T ≠ [] ∧ Lib.trimS (unsT T) digS = []
      · rw [if_pos h1] at q
        obtain ⟨y, s', hG⟩ : ∃ y s', bgD (unsT T) = ⟨y, s'⟩ := ⟨_, _, rfl⟩
        have hy := bgD_lt (unsT T)
        rw [hG] at q hy
        injection q with q1 q2
        simp only at q1 q2 hy
        subst q2
        by_cases hb : Lib.hasPrefix T [45] = true
        · rw [if_pos hb] at q1
          have hM := Bg.Nm.mk' hy
          exact bigof_m w (Lib.hid h) hs (Lib.hid hl) (Lib.hid hT) hsz (Lib.hid h0) (Lib.hid rfl) (Lib.hid hb) (by omega) (Lib.hid h1.1) (Lib.hid (by simp [h1.2])) (Lib.hid hG) (Lib.hid hM) (Lib.hid hM.val) (Lib.hid ⟨hN', q1⟩)
        · rw [if_neg hb] at q1
          subst q1
          exact bigof_p w (Lib.hid h) hs (Lib.hid hl) (Lib.hid hT) hsz (Lib.hid h0) (Lib.hid rfl) (Lib.hid (by simpa using hb)) (by omega) (Lib.hid h1.1) (Lib.hid (by simp [h1.2])) (Lib.hid hG) hN
      · rw [if_neg h1] at q
        have hz0 : z = 0 := by split at q <;> (injection q with q1 q2; exact q1.symm)
        subst hz0
        obtain ⟨rfl, rfl⟩ := nm_zero hN'
        cases h2 : Lib.containsAny T digS
        · rw [h2] at q
          simp at q
          subst q
          by_cases hze : unsT T = []
          · exact bigof_efc w (Lib.hid h) hs (Lib.hid hl) (Lib.hid hT) hsz (Lib.hid h0) (Lib.hid rfl) (Lib.hid rfl) (by omega) (Lib.hid hze) (by omega) hta (Lib.hid h2) (Lib.hid rfl)
          · exact bigof_nfc w (Lib.hid h) hs (Lib.hid hl) (Lib.hid hT) hsz (Lib.hid h0) (Lib.hid rfl) (Lib.hid rfl) (by omega) (Lib.hid hze) (Lib.hid (by simp; exact fun e => h1 ⟨hze, e⟩)) (by omega) hta (Lib.hid h2) (Lib.hid rfl)
        · by_cases h3 : Lib.trimS T pfxS = []
          · rw [h2, h3] at q
            simp at q
            subst q
            by_cases hze : unsT T = []
            · exact bigof_ett w (Lib.hid h) hs (Lib.hid hl) (Lib.hid hT) hsz (Lib.hid h0) (Lib.hid rfl) (Lib.hid rfl) (by omega) (Lib.hid hze) (by omega) hta (Lib.hid h2) (Lib.hid (by simp [h3]))
            · exact bigof_ntt w (Lib.hid h) hs (Lib.hid hl) (Lib.hid hT) hsz (Lib.hid h0) (Lib.hid rfl) (Lib.hid rfl) (by omega) (Lib.hid hze) (Lib.hid (by simp; exact fun e => h1 ⟨hze, e⟩)) (by omega) hta (Lib.hid h2) (Lib.hid (by simp [h3]))
          · rw [h2] at q
            simp [h3] at q
            subst q
            by_cases hze : unsT T = []
            · exact bigof_etf w (Lib.hid h) hs (Lib.hid hl) (Lib.hid hT) hsz (Lib.hid h0) (Lib.hid rfl) (Lib.hid rfl) (by omega) (Lib.hid hze) (by omega) hta (Lib.hid h2) (Lib.hid (by simp [h3]))
            · exact bigof_ntf w (Lib.hid h) hs (Lib.hid hl) (Lib.hid hT) hsz (Lib.hid h0) (Lib.hid rfl) (Lib.hid rfl) (by omega) (Lib.hid hze) (Lib.hid (by simp; exact fun e => h1 ⟨hze, e⟩)) (by omega) hta (Lib.hid h2) (Lib.hid (by simp [h3]))
  · rw [if_neg hl] at q
    injection q with q1 q2
    subst q1 q2
    obtain ⟨rfl, rfl⟩ := nm_zero hN'
    exact bigof_l w (Lib.hid h) hs (Lib.hid (by simpa using hl))
set_option maxRecDepth 100000 in
set_option maxHeartbeats 4000000 in
theorem bigint_undef {k p q : Int} {g : Bool} {A C : Option Addr} {n c m d : Nat} {r : Int} {A2 C2 : Option Addr} {c2 d2 : Nat} (w : World) (hv : Hid (Vld w (Value.agg #[.int .i64 k, .int .i64 p, .int .i64 q, .bool g, .slice A n c, .slice C m d, .int .i64 r]) (Value.agg #[.int .i64 0, .int .i64 0, .int .i64 0, .bool false, .slice A2 0 c2, .slice C2 0 d2, .int .i64 0]))) : Calls Tryz.prog 14 #[Value.agg #[.int .i64 k, .int .i64 p, .int .i64 q, .bool g, .slice A n c, .slice C m d, .int .i64 r]] w (BgP false [] 1 w) := by
  go_enter Tryz.func14, Tryz.ntmps14
  go_wp2_with (go_at_call 43; (with_reducible refine (Vld.call hv.out (by repeat' (first | exact Plus.refl _ | refine Plus.alloc ?_ _ | refine Plus.plus ?_ _ | refine Plus.drew ?_ | refine Plus.drewN ?_ _))).mono ?_); rintro e w1 ⟨rfl, ⟨x1, rfl⟩⟩)
  go_returns
  exact ⟨none, 0, rfl, Bg.arg_nil, (by repeat' (first | exact Plus.refl _ | refine Plus.alloc ?_ _ | refine Plus.plus ?_ _ | refine Plus.drew ?_ | refine Plus.drewN ?_ _))⟩
set_option maxRecDepth 100000 in
set_option maxHeartbeats 4000000 in
theorem bigint_null {k p q : Int} {g : Bool} {A C : Option Addr} {n c m d : Nat} {r : Int} {A2 C2 : Option Addr} {c2 d2 : Nat} (w : World) (hv : Hid (Vld w (Value.agg #[.int .i64 k, .int .i64 p, .int .i64 q, .bool g, .slice A n c, .slice C m d, .int .i64 r]) (Value.agg #[.int .i64 1, .int .i64 0, .int .i64 0, .bool false, .slice A2 0 c2, .slice C2 0 d2, .int .i64 0]))) : Calls Tryz.prog 14 #[Value.agg #[.int .i64 k, .int .i64 p, .int .i64 q, .bool g, .slice A n c, .slice C m d, .int .i64 r]] w (BgP false [] 1 w) := by
  go_enter Tryz.func14, Tryz.ntmps14
  go_wp2_with (go_at_call 43; (with_reducible refine (Vld.call hv.out (by repeat' (first | exact Plus.refl _ | refine Plus.alloc ?_ _ | refine Plus.plus ?_ _ | refine Plus.drew ?_ | refine Plus.drewN ?_ _))).mono ?_); rintro e w1 ⟨rfl, ⟨x1, rfl⟩⟩)
  go_returns
  exact ⟨none, 0, rfl, Bg.arg_nil, (by repeat' (first | exact Plus.refl _ | refine Plus.alloc ?_ _ | refine Plus.plus ?_ _ | refine Plus.drew ?_ | refine Plus.drewN ?_ _))⟩
set_option maxRecDepth 100000 in
set_option maxHeartbeats 4000000 in
theorem bigint_num {k p q : Int} {g : Bool} {A C : Option Addr} {n c m d : Nat} {r : Int} {p2 q2 : Int} {A2 C2 : Option Addr} {c2 d2 : Nat} (w : World) (hv : Hid (Vld w (Value.agg #[.int .i64 k, .int .i64 p, .int .i64 q, .bool g, .slice A n c, .slice C m d, .int .i64 r]) (Value.agg #[.int .i64 3, .int .i64 p2, .int .i64 q2, .bool false, .slice A2 0 c2, .slice C2 0 d2, .int .i64 0]))) : Calls Tryz.prog 14 #[Value.agg #[.int .i64 k, .int .i64 p, .int .i64 q, .bool g, .slice A n c, .slice C m d, .int .i64 r]] w (BgP false [] 1 w) := by
  go_enter Tryz.func14, Tryz.ntmps14
  go_wp2_with (go_at_call 43; (with_reducible refine (Vld.call hv.out (by repeat' (first | exact Plus.refl _ | refine Plus.alloc ?_ _ | refine Plus.plus ?_ _ | refine Plus.drew ?_ | refine Plus.drewN ?_ _))).mono ?_); rintro e w1 ⟨rfl, ⟨x1, rfl⟩⟩)
  go_returns
  exact ⟨none, 0, rfl, Bg.arg_nil, (by repeat' (first | exact Plus.refl _ | refine Plus.alloc ?_ _ | refine Plus.plus ?_ _ | refine Plus.drew ?_ | refine Plus.drewN ?_ _))⟩
set_option maxRecDepth 100000 in
set_option maxHeartbeats 4000000 in
theorem bigint_obj {k p q : Int} {g : Bool} {A C : Option Addr} {n c m d : Nat} {r : Int} {A2 C2 : Option Addr} {c2 d2 : Nat} {r2 : Int} (w : World) (hv : Hid (Vld w (Value.agg #[.int .i64 k, .int .i64 p, .int .i64 q, .bool g, .slice A n c, .slice C m d, .int .i64 r]) (Value.agg #[.int .i64 6, .int .i64 0, .int .i64 0, .bool false, .slice A2 0 c2, .slice C2 0 d2, .int .i64 r2]))) : Calls Tryz.prog 14 #[Value.agg #[.int .i64 k, .int .i64 p, .int .i64 q, .bool g, .slice A n c, .slice C m d, .int .i64 r]] w (BgP false [] 3 w) := by
  go_enter Tryz.func14, Tryz.ntmps14
  go_wp2_with (go_at_call 43; (with_reducible refine (Vld.call hv.out (by repeat' (first | exact Plus.refl _ | refine Plus.alloc ?_ _ | refine Plus.plus ?_ _ | refine Plus.drew ?_ | refine Plus.drewN ?_ _))).mono ?_); rintro e w1 ⟨rfl, ⟨x1, rfl⟩⟩)
  go_returns
  exact ⟨none, 0, rfl, Bg.arg_nil, (by repeat' (first | exact Plus.refl _ | refine Plus.alloc ?_ _ | refine Plus.plus ?_ _ | refine Plus.drew ?_ | refine Plus.drewN ?_ _))⟩
set_option maxRecDepth 100000 in
set_option maxHeartbeats 4000000 in
theorem bigint_tru {k p q : Int} {g : Bool} {A C : Option Addr} {n c m d : Nat} {r : Int} {A2 C2 : Option Addr} {c2 d2 : Nat} (w : World) (hv : Hid (Vld w (Value.agg #[.int .i64 k, .int .i64 p, .int .i64 q, .bool g, .slice A n c, .slice C m d, .int .i64 r]) (Value.agg #[.int .i64 2, .int .i64 0, .int .i64 0, .bool false, .slice A2 0 c2, .slice C2 0 d2, .int .i64 1]))) {pb : Bool} {us : List Nat} {rr : Int} (hO : Hid (Bg.OfN 1 rr pb us)) : Calls Tryz.prog 14 #[Value.agg #[.int .i64 k, .int .i64 p, .int .i64 q, .bool g, .slice A n c, .slice C m d, .int .i64 r]] w (BgP pb us 0 w) := by
  go_enter Tryz.func14, Tryz.ntmps14
  go_wp2_with (first | (go_at_call 43; (with_reducible refine (Vld.call hv.out (by repeat' (first | exact Plus.refl _ | refine Plus.alloc ?_ _ | refine Plus.plus ?_ _ | refine Plus.drew ?_ | refine Plus.drewN ?_ _))).mono ?_); rintro e w1 ⟨rfl, ⟨x1, rfl⟩⟩) | (go_at_call 51; (with_reducible refine (bof_v hO _).mono ?_); rintro e w2 ⟨A1, c1, rfl, hA, ⟨x2, rfl⟩⟩; have HA := Lib.hid hA; clear hA))
  go_returns
  exact ⟨A1, c1, rfl, arg_off HA.out (by repeat' (first | exact Off.refl _ _ | refine Off.plus ?_ _ | refine Off.alloc ?_ _ | exact Off.allocN (Off.refl _ _) (noB _ _ _ _ _) | exact Off.allocN (Off.refl _ _) (noV _ _ _ _ _ _ _ _ _ _ _ _) | refine Off.allocN ?_ (noB _ _ _ _ _) | refine Off.allocN ?_ (noV _ _ _ _ _ _ _ _ _ _ _ _) | refine Off.drew ?_)), (by repeat' (first | exact Plus.refl _ | refine Plus.alloc ?_ _ | refine Plus.plus ?_ _ | refine Plus.drew ?_ | refine Plus.drewN ?_ _))⟩
set_option maxRecDepth 100000 in
set_option maxHeartbeats 4000000 in
theorem bigint_fal {k p q : Int} {g : Bool} {A C : Option Addr} {n c m d : Nat} {r : Int} {A2 C2 : Option Addr} {c2 d2 : Nat} (w : World) (hv : Hid (Vld w (Value.agg #[.int .i64 k, .int .i64 p, .int .i64 q, .bool g, .slice A n c, .slice C m d, .int .i64 r]) (Value.agg #[.int .i64 2, .int .i64 0, .int .i64 0, .bool false, .slice A2 0 c2, .slice C2 0 d2, .int .i64 0]))) {pb : Bool} {us : List Nat} {rr : Int} (hO : Hid (Bg.OfN 0 rr pb us)) : Calls Tryz.prog 14 #[Value.agg #[.int .i64 k, .int .i64 p, .int .i64 q, .bool g, .slice A n c, .slice C m d, .int .i64 r]] w (BgP pb us 0 w) := by
  go_enter Tryz.func14, Tryz.ntmps14
  go_wp2_with (first | (go_at_call 43; (with_reducible refine (Vld.call hv.out (by repeat' (first | exact Plus.refl _ | refine Plus.alloc ?_ _ | refine Plus.plus ?_ _ | refine Plus.drew ?_ | refine Plus.drewN ?_ _))).mono ?_); rintro e w1 ⟨rfl, ⟨x1, rfl⟩⟩) | (go_at_call 51; (with_reducible refine (bof_v hO _).mono ?_); rintro e w2 ⟨A1, c1, rfl, hA, ⟨x2, rfl⟩⟩; have HA := Lib.hid hA; clear hA))
  go_returns
  exact ⟨A1, c1, rfl, arg_off HA.out (by repeat' (first | exact Off.refl _ _ | refine Off.plus ?_ _ | refine Off.alloc ?_ _ | exact Off.allocN (Off.refl _ _) (noB _ _ _ _ _) | exact Off.allocN (Off.refl _ _) (noV _ _ _ _ _ _ _ _ _ _ _ _) | refine Off.allocN ?_ (noB _ _ _ _ _) | refine Off.allocN ?_ (noV _ _ _ _ _ _ _ _ _ _ _ _) | refine Off.drew ?_)), (by repeat' (first | exact Plus.refl _ | refine Plus.alloc ?_ _ | refine Plus.plus ?_ _ | refine Plus.drew ?_ | refine Plus.drewN ?_ _))⟩
def BgQ (pb : Bool) (us : List Nat) (n : Nat) (s : Int) (w : World) (e : Ending) (w' : World) : Prop :=
  ∃ (A : Option Addr) (c : Nat), e = .returned (.tuple #[.agg #[.bool pb, .slice A n c], .int .i64 s]) ∧ Bg.Arg w' A us n c ∧ Plus w w'
set_option maxRecDepth 100000 in
set_option maxHeartbeats 4000000 in
theorem bigint_big {k p q : Int} {g : Bool} {A C : Option Addr} {n c m d : Nat} {r : Int} {g2 : Bool} {A2 C2 : Option Addr} {xs2 : List Nat} {n2 c2 d2 : Nat} (w : World) (hv : Hid (Vld w (Value.agg #[.int .i64 k, .int .i64 p, .int .i64 q, .bool g, .slice A n c, .slice C m d, .int .i64 r]) (Value.agg #[.int .i64 4, .int .i64 0, .int .i64 0, .bool g2, .slice A2 n2 c2, .slice C2 0 d2, .int .i64 0]))) (hb : Hid (Bg.Arg w A2 xs2 n2 c2)) : Calls Tryz.prog 14 #[Value.agg #[.int .i64 k, .int .i64 p, .int .i64 q, .bool g, .slice A n c, .slice C m d, .int .i64 r]] w (BgQ g2 xs2 n2 0 w) := by
  go_enter Tryz.func14, Tryz.ntmps14
  go_wp2_with (first | (go_at_call 43; (with_reducible refine (Vld.call hv.out (by repeat' (first | exact Plus.refl _ | refine Plus.alloc ?_ _ | refine Plus.plus ?_ _ | refine Plus.drew ?_ | refine Plus.drewN ?_ _))).mono ?_); rintro e w1 ⟨rfl, ⟨x1, rfl⟩⟩) | (go_at_call 48; (with_reducible refine (cloned_h _ (hb.out.plus (by repeat' (first | exact Plus.refl _ | refine Plus.alloc ?_ _ | refine Plus.plus ?_ _ | refine Plus.drew ?_ | refine Plus.drewN ?_ _)))).mono ?_); rintro e w2 ⟨A1, c1, rfl, hA, ⟨x2, rfl⟩⟩; have HA := Lib.hid hA; clear hA))
  go_returns
  exact ⟨A1, c1, rfl, arg_off HA.out (by repeat' (first | exact Off.refl _ _ | refine Off.plus ?_ _ | refine Off.alloc ?_ _ | exact Off.allocN (Off.refl _ _) (noB _ _ _ _ _) | exact Off.allocN (Off.refl _ _) (noV _ _ _ _ _ _ _ _ _ _ _ _) | refine Off.allocN ?_ (noB _ _ _ _ _) | refine Off.allocN ?_ (noV _ _ _ _ _ _ _ _ _ _ _ _) | refine Off.drew ?_)), (by repeat' (first | exact Plus.refl _ | refine Plus.alloc ?_ _ | refine Plus.plus ?_ _ | refine Plus.drew ?_ | refine Plus.drewN ?_ _))⟩
set_option maxRecDepth 100000 in
set_option maxHeartbeats 4000000 in
theorem bigint_text {k p q : Int} {g : Bool} {A C : Option Addr} {n c m d : Nat} {r : Int} {A2 C2 : Option Addr} {us2 : List Nat} {c2 m2 d2 : Nat} (w : World) (hv : Hid (Vld w (Value.agg #[.int .i64 k, .int .i64 p, .int .i64 q, .bool g, .slice A n c, .slice C m d, .int .i64 r]) (Value.agg #[.int .i64 5, .int .i64 0, .int .i64 0, .bool false, .slice A2 0 c2, .slice C2 m2 d2, .int .i64 0]))) (hs : Hid (Ar .u16 65536 w C2 us2 m2 d2)) {z s : Int} {pb : Bool} {vs : List Nat} (hz : Hid (bgU us2 = ⟨z, s⟩)) (hN : Hid (Bg.Nm z pb vs)) (hm : m2 ≤ 4096) : Calls Tryz.prog 14 #[Value.agg #[.int .i64 k, .int .i64 p, .int .i64 q, .bool g, .slice A n c, .slice C m d, .int .i64 r]] w (BgP pb vs s w) := by
  go_enter Tryz.func14, Tryz.ntmps14
  go_wp2_with (first | (go_at_call 43; (with_reducible refine (Vld.call hv.out (by repeat' (first | exact Plus.refl _ | refine Plus.alloc ?_ _ | refine Plus.plus ?_ _ | refine Plus.drew ?_ | refine Plus.drewN ?_ _))).mono ?_); rintro e w1 ⟨rfl, ⟨x1, rfl⟩⟩) | (go_at_call 52; (with_reducible refine (bigOf_v hz hN _ (hs.out.plus (by repeat' (first | exact Plus.refl _ | refine Plus.alloc ?_ _ | refine Plus.plus ?_ _ | refine Plus.drew ?_ | refine Plus.drewN ?_ _))) hm).mono ?_); rintro e w2 ⟨A1, c1, rfl, hA, ⟨x2, rfl⟩⟩; have HA := Lib.hid hA; clear hA))
  go_returns
  exact ⟨A1, c1, rfl, arg_off HA.out (by repeat' (first | exact Off.refl _ _ | refine Off.plus ?_ _ | refine Off.alloc ?_ _ | exact Off.allocN (Off.refl _ _) (noB _ _ _ _ _) | exact Off.allocN (Off.refl _ _) (noV _ _ _ _ _ _ _ _ _ _ _ _) | refine Off.allocN ?_ (noB _ _ _ _ _) | refine Off.allocN ?_ (noV _ _ _ _ _ _ _ _ _ _ _ _) | refine Off.drew ?_)), (by repeat' (first | exact Plus.refl _ | refine Plus.alloc ?_ _ | refine Plus.plus ?_ _ | refine Plus.drew ?_ | refine Plus.drewN ?_ _))⟩
def bigJ : JV → G2
  | .undef => ⟨0, 1⟩
  | .null => ⟨0, 1⟩
  | .bool b => ⟨bit b, 0⟩
  | .num _ _ => ⟨0, 1⟩
  | .big z => ⟨z, 0⟩
  | .text us => bgU us
  | .obj _ => ⟨0, 3⟩
theorem cbig_v {k p q : Int} {g : Bool} {A C : Option Addr} {n c m d : Nat} {r : Int} {v' : Value} {x : JV} {z s : Int} {pb : Bool} {vs : List Nat} (hJ : Hid (bigJ x = ⟨z, s⟩)) (hN : Hid (Bg.Nm z pb vs)) (w : World) (hn : NV w v' x) (hv : Vld w (Value.agg #[.int .i64 k, .int .i64 p, .int .i64 q, .bool g, .slice A n c, .slice C m d, .int .i64 r]) v') :
    Calls Tryz.prog 14 #[Value.agg #[.int .i64 k, .int .i64 p, .int .i64 q, .bool g, .slice A n c, .slice C m d, .int .i64 r]] w (BgP pb vs s w) := by
  have q := hJ.out
  have hN' := hN.out
  cases x with
  | undef =>
    obtain ⟨A2, C2, c2, d2, rfl, h1, h2⟩ := hn
    simp only [bigJ, G2.mk.injEq] at q
    obtain ⟨rfl, rfl⟩ := q
    obtain ⟨rfl, rfl⟩ := nm_zero hN'
    exact bigint_undef w (Lib.hid hv)
  | null =>
    obtain ⟨A2, C2, c2, d2, rfl, h1, h2⟩ := hn
    simp only [bigJ, G2.mk.injEq] at q
    obtain ⟨rfl, rfl⟩ := q
    obtain ⟨rfl, rfl⟩ := nm_zero hN'
    exact bigint_null w (Lib.hid hv)
  | num p2 q2 =>
    obtain ⟨A2, C2, c2, d2, rfl, h1, h2, h3⟩ := hn
    simp only [bigJ, G2.mk.injEq] at q
    obtain ⟨rfl, rfl⟩ := q
    obtain ⟨rfl, rfl⟩ := nm_zero hN'
    exact bigint_num w (Lib.hid hv)
  | obj r2 =>
    obtain ⟨A2, C2, c2, d2, rfl, h1, h2, h3⟩ := hn
    simp only [bigJ, G2.mk.injEq] at q
    obtain ⟨rfl, rfl⟩ := q
    obtain ⟨rfl, rfl⟩ := nm_zero hN'
    exact bigint_obj w (Lib.hid hv)
  | bool b0 =>
    obtain ⟨A2, C2, c2, d2, rfl, h1, h2⟩ := hn
    simp only [bigJ, G2.mk.injEq] at q
    obtain ⟨rfl, rfl⟩ := q
    cases b0
    · exact bigint_fal w (Lib.hid hv) (Lib.hid ⟨hN', rfl, by decide, by decide⟩)
    · exact bigint_tru w (Lib.hid hv) (Lib.hid ⟨hN', rfl, by decide, by decide⟩)
  | big z =>
    obtain ⟨g2, A2, C2, xs2, n2, c2, d2, rfl, h1, h2, rfl, h4⟩ := hn
    simp only [bigJ, G2.mk.injEq] at q
    obtain ⟨rfl, rfl⟩ := q
    obtain ⟨e1, e2, _⟩ := Bg.may_yes h4.lim.1 h2
    have e3 : xs2 = vs := e1.trans hN'.mag
    have e4 : g2 = pb := e2.trans hN'.neg
    have e5 := h4.len
    subst e3 e4 e5
    exact bigint_big w (Lib.hid hv) (Lib.hid h4)
  | text us2 =>
    obtain ⟨A2, C2, c2, m2, d2, rfl, h1, h2, h3⟩ := hn
    exact bigint_text w (Lib.hid hv) (Lib.hid h3) (Lib.hid q) hN (by rw [h3.len]; exact h2)
end Go.Proofs.YtakahpbondaidaaGreatDoor
