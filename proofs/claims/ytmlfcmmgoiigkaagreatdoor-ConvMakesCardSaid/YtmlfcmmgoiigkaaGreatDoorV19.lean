/- A slice stands though a box turns; unsigned, hasOnly, bigOfDigits, cloned. -/
import Derived.Test.YtmlfcmmgoiigkaaGreatDoorV18
namespace Go.Proofs.YtmlfcmmgoiigkaaGreatDoor
open Go.RowKit

/-- Two worlds that differ in blocks that hold no cell of kind k. -/
def NoK (k : IntKind) (o : Obj) : Prop := ∃ cs e z, o = .cells cs e z ∧ ∀ v ∈ cs, ∀ y, v ≠ .int k y
def Off (k : IntKind) (W1 W2 : World) : Prop := W1.heap.size = W2.heap.size ∧ ∀ b : Nat, W2.heap[b]? = W1.heap[b]? ∨ ∃ o, W1.heap[b]? = some o ∧ NoK k o
theorem Off.refl (k : IntKind) (w : World) : Off k w w := ⟨rfl, fun _ => .inl rfl⟩
theorem Off.allocN {k : IntKind} {W1 W2 : World} {o o' : Obj} (h : Off k W1 W2) (ho : NoK k o) : Off k (W1.alloc o) (W2.alloc o') := by
  refine ⟨by rw [World.size_alloc, World.size_alloc, h.1], fun b => ?_⟩
  simp only [World.alloc, Array.getElem?_push, h.1]
  by_cases hb : b = W2.heap.size
  · rw [if_pos hb, if_pos hb]; exact .inr ⟨o, rfl, ho⟩
  · rw [if_neg hb, if_neg hb]; exact h.2 b
theorem Off.alloc {k : IntKind} {W1 W2 : World} (h : Off k W1 W2) (o : Obj) : Off k (W1.alloc o) (W2.alloc o) := by
  refine ⟨by rw [World.size_alloc, World.size_alloc, h.1], fun b => ?_⟩
  simp only [World.alloc, Array.getElem?_push, h.1]
  by_cases hb : b = W2.heap.size
  · rw [if_pos hb, if_pos hb]; exact .inl rfl
  · rw [if_neg hb, if_neg hb]; exact h.2 b
theorem Off.plus {k : IntKind} {W1 W2 : World} (h : Off k W1 W2) (x : More) : Off k (_root_.Go.Proofs.YtmlfcmmgoiigkaaGreatDoor.plus W1 x) (_root_.Go.Proofs.YtmlfcmmgoiigkaaGreatDoor.plus W2 x) := by
  refine ⟨by rw [size_plus, size_plus, h.1], fun b => ?_⟩
  simp only [_root_.Go.Proofs.YtmlfcmmgoiigkaaGreatDoor.plus]
  by_cases hb : b < W1.heap.size
  · rw [Array.getElem?_append_left hb, Array.getElem?_append_left (by rw [← h.1]; exact hb)]; exact h.2 b
  · have h1 := h.1
    rw [Array.getElem?_append_right (by omega), Array.getElem?_append_right (by omega), h1]; exact .inl rfl
theorem Off.drew {k : IntKind} {W1 W2 : World} (h : Off k W1 W2) : Off k W1.drew W2.drew := h
theorem Rd.off {k : IntKind} {W1 W2 : World} {A : Option Addr} {xs : List Nat} (h : Rd k W1 A xs) (o : Off k W1 W2) : Rd k W2 A xs := fun h0 => by
  obtain ⟨g, p, rfl, hg, ha⟩ := h h0
  refine ⟨g, p, rfl, by rw [← o.1]; exact hg, fun j hj => ?_⟩
  rcases o.2 g with e | ⟨ob, hob, cs, t, z, rfl, hc⟩
  · rw [World.cell?_of_block (w := W1) e]; exact ha j hj
  · exfalso
    have q := ha j hj
    rw [cell_of_row W1 g (p + j) cs t z hob] at q
    exact hc _ (Array.mem_of_getElem? q) _ rfl
theorem Ar.off {k : IntKind} {K : Nat} {W1 W2 : World} {A : Option Addr} {xs : List Nat} {n c : Nat} (h : Ar k K W1 A xs n c) (o : Off k W1 W2) : Ar k K W2 A xs n c := ⟨h.rd.off o, h.len, h.cap, h.max, h.bd⟩
theorem arg_off {W1 W2 : World} {A : Option Addr} {xs : List Nat} {n c : Nat} (h : Bg.Arg W1 A xs n c) (o : Off .u32 W1 W2) : Bg.Arg W2 A xs n c :=
  ⟨⟨h.lim.1, (lim_rd ((rd_lim h.lim).off o) h.lim.1).2⟩, h.len, h.few, h.cap, h.max⟩
theorem noB (b : Bool) (A : Option Addr) (n c : Nat) (e : TypeId) : NoK .u32 (.cells #[.bool b, .slice A n c] e) := ⟨_, _, _, rfl, by simp⟩
theorem noV (k p q : Int) (g : Bool) (A C : Option Addr) (n c m d : Nat) (r : Int) (e : TypeId) : NoK .u32 (.cells #[.int .i64 k, .int .i64 p, .int .i64 q, .bool g, .slice A n c, .slice C m d, .int .i64 r] e) := ⟨_, _, _, rfl, by simp⟩
theorem noN (k p : Int) (e : TypeId) : NoK .u32 (.cells #[.int .i64 k, .int .i64 p] e) := ⟨_, _, _, rfl, by simp⟩
set_option maxRecDepth 100000 in
theorem cunsigned_c (l : List UInt8) (w : World) : Calls Tryz.prog 96 #[.string (str l)] w fun e w' => e = .returned (.tuple #[.string (str (unsT l)), .bool (Lib.hasPrefix l [45])]) ∧ w = w' := by
  have hcp : ∀ w : World, Calls Tryz.prog 146 #[.string (str l), .string ⟨#[45]⟩] w fun e w' => e = .returned (.tuple #[.string (str (Lib.trimPrefix l [45])), .bool (Lib.hasPrefix l [45])]) ∧ w = w' := fun w => cutPrefix_c (str l) ⟨#[45]⟩ w
  have htp : ∀ w : World, Calls Tryz.prog 147 #[.string (str l), .string ⟨#[43]⟩] w fun e w' => e = .returned (.string (str (Lib.trimPrefix l [43]))) ∧ w = w' := fun w => trimPrefix_c (str l) ⟨#[43]⟩ w
  obtain ⟨u, hu⟩ : ∃ u, unsT l = u := ⟨_, rfl⟩
  obtain ⟨a, ha⟩ : ∃ a, Lib.trimPrefix l [45] = a := ⟨_, rfl⟩
  obtain ⟨c, hc⟩ : ∃ c, Lib.trimPrefix l [43] = c := ⟨_, rfl⟩
  obtain ⟨b, hb⟩ : ∃ b, Lib.hasPrefix l [45] = b := ⟨_, rfl⟩
  have hU : u = if b then a else c := by rw [← hu, ← ha, ← hc, ← hb]; rfl
  rw [ha, hb] at hcp
  rw [hc] at htp
  rw [hb, hu]
  clear hu ha hc hb
  have HU := Lib.hid hU
  clear hU
  have HC := Lib.hid hcp
  have HT := Lib.hid htp
  clear hcp htp
  cases b
  · go_enter Tryz.func96, Tryz.ntmps96
    go_wp2_with (first
      | (go_at_call 146; refine (HC.out _).mono ?_; rintro e w1 ⟨rfl, rfl⟩)
      | (go_at_call 147; refine (HT.out _).mono ?_; rintro e w1 ⟨rfl, rfl⟩))
    go_returns
    refine ⟨?_, rfl⟩
    rw [HU.out]
    rfl
  · go_enter Tryz.func96, Tryz.ntmps96
    go_wp2_with (first
      | (go_at_call 146; refine (HC.out _).mono ?_; rintro e w1 ⟨rfl, rfl⟩))
    go_returns
    refine ⟨?_, rfl⟩
    rw [HU.out]
    rfl
theorem chasOnly_c (l s : List UInt8) (w : World) (hl : l.length ≤ 1099511627776) (hs : s.length ≤ 1048576) (ha : asc s) (b : Bool) (hb : Hid (decide (Lib.trimS l s = []) = b)) : Calls Tryz.prog 97 #[.string (str l), .string (str s)] w fun e w' => e = .returned (.bool b) ∧ Plus w w' := by
  have htr : ∀ w : World, Calls Tryz.prog 95 #[.string (str l), .string (str s)] w fun e w' => e = .returned (.string (str (Lib.trimS l s))) ∧ Plus w w' := fun w => trim_c (str l) (str s) w (by rw [str_size]; omega) (by rw [str_size]; omega) (asc_get ha)
  have HT := Lib.hid htr
  clear htr
  have e1 : ((str (Lib.trimS l s)).toList == []) = b := by rw [str_list, ← hb.out, Bool.eq_iff_iff]; simp
  have e2 : (str (Lib.trimS l s)).toList.isEmpty = b := by rw [← e1]; cases (str (Lib.trimS l s)).toList <;> rfl
  go_enter Tryz.func97, Tryz.ntmps97
  go_wp2_with (go_at_call 95; refine (HT.out _).mono ?_; rintro e w1 ⟨rfl, ⟨x1, rfl⟩⟩)
  go_ret
  exact ⟨rfl, (by repeat' (first | exact Plus.refl _ | refine Plus.alloc ?_ _ | refine Plus.plus ?_ _ | refine Plus.drew ?_ | refine Plus.drewN ?_ _))⟩
/-- A BigInt that comes with a signal. -/
def BgP (pb : Bool) (us : List Nat) (s : Int) (w : World) (e : Ending) (w' : World) : Prop :=
  ∃ (A : Option Addr) (c : Nat), e = .returned (.tuple #[.agg #[.bool pb, .slice A us.length c], .int .i64 s]) ∧ Bg.Arg w' A us us.length c ∧ Plus w w'
theorem trimL_v {s c : ByteArray} {T : List UInt8} (h : Hid (Lib.trimLeftS s.data.toList c.data.toList = T)) (w : World) (hc : c.size < 4294967281) (ha : ∀ (j : Nat) b, c.data.toList[j]? = some b → b.toNat < 128) :
    Calls Tryz.prog 148 #[.string s, .string c] w fun e w' => e = .returned (.string (str T)) ∧ Plus w w' := by
  have := trimLeft_c s c w hc ha
  rw [h.out] at this
  exact this
theorem z48 : ∀ (j : Nat) b, (⟨#[48]⟩ : ByteArray).data.toList[j]? = some b → b.toNat < 128 := asc_get (l := [48]) (by intro x hx; simp at hx; subst hx; decide)
theorem bparse_v {s : ByteArray} {pb : Bool} {us : List Nat} {r er : Int} (hr : Hid (Bg.ParN r er s pb us)) (w : World) : Calls Tryz.prog 149 #[.string s] w fun e w' => ∃ (A1 : Option Addr) (c1 : Nat), e = .returned (.tuple #[.agg #[.bool pb, .slice A1 us.length c1], .int .i64 er]) ∧ Bg.Arg w' A1 us us.length c1 ∧ Plus w w' := Bg.parse_n hr w
set_option maxRecDepth 100000 in
set_option maxHeartbeats 4000000 in
theorem bod_0 {l : List UInt8} (hT : Hid (Lib.trimLeftS (str l).data.toList (⟨#[48]⟩ : ByteArray).data.toList = [])) (w : World) : Calls Tryz.prog 98 #[.string (str l)] w (BgP false [] 0 w) := by
  have b0 : ((str []).toList == []) = true := by rw [str_list]; rfl
  have b1 : (str []).toList = [] := str_list _
  go_enter Tryz.func98, Tryz.ntmps98
  go_wp2_with (go_at_call 148; (with_reducible refine (trimL_v hT _ (by decide) z48).mono ?_); rintro e w1 ⟨rfl, ⟨x1, rfl⟩⟩)
  go_returns
  exact ⟨none, 0, rfl, Bg.arg_nil, (by repeat' (first | exact Plus.refl _ | refine Plus.alloc ?_ _ | refine Plus.plus ?_ _ | refine Plus.drew ?_ | refine Plus.drewN ?_ _))⟩
set_option maxRecDepth 100000 in
set_option maxHeartbeats 4000000 in
theorem bod_e {l T : List UInt8} {pb : Bool} {us : List Nat} {r er : Int} (hT : Hid (Lib.trimLeftS (str l).data.toList (⟨#[48]⟩ : ByteArray).data.toList = T)) (hne : Hid (T ≠ [])) (hr : Hid (Bg.ParN r er (str T) pb us)) (he : (er != 0) = true) (w : World) : Calls Tryz.prog 98 #[.string (str l)] w (BgP false [] 3 w) := by
  obtain ⟨b0, b1, b2⟩ := str_ne hne.out
  go_enter Tryz.func98, Tryz.ntmps98
  go_wp2_with (first | (go_at_call 148; (with_reducible refine (trimL_v hT _ (by decide) z48).mono ?_); rintro e w1 ⟨rfl, ⟨x1, rfl⟩⟩) | (go_at_call 149; (with_reducible refine (bparse_v hr _).mono ?_); rintro e w2 ⟨A1, c1, rfl, hA, ⟨x2, rfl⟩⟩; have HA := Lib.hid hA; clear hA))
  go_returns
  exact ⟨none, 0, rfl, Bg.arg_nil, (by repeat' (first | exact Plus.refl _ | refine Plus.alloc ?_ _ | refine Plus.plus ?_ _ | refine Plus.drew ?_ | refine Plus.drewN ?_ _))⟩
set_option maxRecDepth 100000 in
set_option maxHeartbeats 4000000 in
theorem bod_y {l T : List UInt8} {pb : Bool} {us : List Nat} {r : Int} (hT : Hid (Lib.trimLeftS (str l).data.toList (⟨#[48]⟩ : ByteArray).data.toList = T)) (hne : Hid (T ≠ [])) (hr : Hid (Bg.ParN r 0 (str T) pb us)) (w : World) : Calls Tryz.prog 98 #[.string (str l)] w (BgP pb us 0 w) := by
  obtain ⟨b0, b1, b2⟩ := str_ne hne.out
  go_enter Tryz.func98, Tryz.ntmps98
  go_wp2_with (first | (go_at_call 148; (with_reducible refine (trimL_v hT _ (by decide) z48).mono ?_); rintro e w1 ⟨rfl, ⟨x1, rfl⟩⟩) | (go_at_call 149; (with_reducible refine (bparse_v hr _).mono ?_); rintro e w2 ⟨A1, c1, rfl, hA, ⟨x2, rfl⟩⟩; have HA := Lib.hid hA; clear hA))
  go_returns
  exact ⟨A1, c1, rfl, arg_off (HA.out.plus (Plus.alloc (Plus.refl _) (.cells #[.bool pb, .slice A1 us.length c1] 26))) (by repeat' (first | exact Off.refl _ _ | refine Off.plus ?_ _ | refine Off.alloc ?_ _ | exact Off.allocN (Off.refl _ _) (noB _ _ _ _ _) | exact Off.allocN (Off.refl _ _) (noV _ _ _ _ _ _ _ _ _ _ _ _) | refine Off.allocN ?_ (noB _ _ _ _ _) | refine Off.allocN ?_ (noV _ _ _ _ _ _ _ _ _ _ _ _) | refine Off.drew ?_)), (by repeat' (first | exact Plus.refl _ | refine Plus.alloc ?_ _ | refine Plus.plus ?_ _ | refine Plus.drew ?_ | refine Plus.drewN ?_ _))⟩
theorem clone32_n {A : Option Addr} {xs : List Nat} {n c : Nat} (w : World) (h : Bg.Arg w A xs n c) : Calls Tryz.prog 91 #[.slice A n c] w fun e w' => ∃ (D : Option Addr) (k : Nat), e = .returned (.slice D n k) ∧ Bg.Arg w' D xs n k ∧ Plus w w' := by
  refine (Bg.clone_c A xs n c w h.lim h.len h.few).mono ?_
  rintro e w' ⟨v, rfl, ho, hb⟩
  obtain ⟨D, k, rfl, h1, h2, h3⟩ := rd_of_own (k := .u32) ho
  have hn := h.len
  subst hn
  exact ⟨D, k, rfl, ⟨lim_rd h3 h.lim.1, rfl, h.few, h1, h2⟩, Plus.of_below hb⟩
set_option maxRecDepth 100000 in
set_option maxHeartbeats 4000000 in
theorem cloned_v {g : Bool} {A : Option Addr} {xs : List Nat} {n c : Nat} (w : World) (h : Hid (Bg.Arg w A xs n c)) : Calls Tryz.prog 54 #[.agg #[.bool g, .slice A n c]] w fun e w' => ∃ (D : Option Addr) (k : Nat), e = .returned (.agg #[.bool g, .slice D n k]) ∧ Bg.Arg w' D xs n k ∧ Plus w w' := by
  go_enter Tryz.func54, Tryz.ntmps54
  go_wp2_with fail
  go_region_with (go_at_call 91; (with_reducible refine (clone32_n _ (h.out.plus (by repeat' (first | exact Plus.refl _ | refine Plus.alloc ?_ _ | refine Plus.plus ?_ _ | refine Plus.drew ?_ | refine Plus.drewN ?_ _)))).mono ?_); rintro e w1 ⟨D, k, rfl, hD, ⟨x1, rfl⟩⟩; have HD := Lib.hid hD; clear hD)
  all_goals go_wp2_with fail
  all_goals go_returns
  all_goals
    have q := HD.out
    (try simp only [plus_drew] at q)
    exact ⟨D, k, rfl, arg_off q (by repeat' (first | exact Off.refl _ _ | refine Off.plus ?_ _ | refine Off.alloc ?_ _ | exact Off.allocN (Off.refl _ _) (noB _ _ _ _ _) | exact Off.allocN (Off.refl _ _) (noV _ _ _ _ _ _ _ _ _ _ _ _) | refine Off.allocN ?_ (noB _ _ _ _ _) | refine Off.allocN ?_ (noV _ _ _ _ _ _ _ _ _ _ _ _) | refine Off.drew ?_)), (by repeat' (first | exact Plus.refl _ | refine Plus.alloc ?_ _ | refine Plus.plus ?_ _ | refine Plus.drew ?_ | refine Plus.drewN ?_ _))⟩
end Go.Proofs.YtmlfcmmgoiigkaaGreatDoor
