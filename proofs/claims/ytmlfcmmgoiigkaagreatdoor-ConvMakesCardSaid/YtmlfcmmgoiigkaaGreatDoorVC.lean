/- Contracts: conv.Truth, Num, Str, Text; the statements' whole, str, big. Contracts: conv.Text; the statements' big. -/
import Derived.Test.YtmlfcmmgoiigkaaGreatDoorV7
namespace Go.Proofs.YtmlfcmmgoiigkaaGreatDoor
open Go.RowKit

set_option maxRecDepth 100000 in
set_option maxHeartbeats 4000000 in
theorem truth_t (w : World) : Calls Tryz.prog 35 #[.bool true] w fun e w' => e = .returned (Value.agg #[.int .i64 2, .int .i64 0, .int .i64 0, .bool false, .slice none 0 0, .slice none 0 0, .int .i64 1]) ∧ Plus w w' := by
  go_enter Tryz.func35, Tryz.ntmps35
  go_wp2_with fail
  go_returns
  exact ⟨rfl, (by repeat' (first | exact Plus.refl _ | refine Plus.alloc ?_ _ | refine Plus.plus ?_ _ | refine Plus.drew ?_ | refine Plus.drewN ?_ _))⟩
set_option maxRecDepth 100000 in
set_option maxHeartbeats 4000000 in
theorem truth_f (w : World) : Calls Tryz.prog 35 #[.bool false] w fun e w' => e = .returned (Value.agg #[.int .i64 2, .int .i64 0, .int .i64 0, .bool false, .slice none 0 0, .slice none 0 0, .int .i64 0]) ∧ Plus w w' := by
  go_enter Tryz.func35, Tryz.ntmps35
  go_wp2_with fail
  go_returns
  exact ⟨rfl, (by repeat' (first | exact Plus.refl _ | refine Plus.alloc ?_ _ | refine Plus.plus ?_ _ | refine Plus.drew ?_ | refine Plus.drewN ?_ _))⟩
theorem truth_c (b : Bool) (w : World) : Calls Tryz.prog 35 #[.bool b] w fun e w' => e = .returned (Value.agg #[.int .i64 2, .int .i64 0, .int .i64 0, .bool false, .slice none 0 0, .slice none 0 0, .int .i64 (bit b)]) ∧ Plus w w' := by
  cases b
  · exact truth_f w
  · exact truth_t w
set_option maxRecDepth 100000 in
set_option maxHeartbeats 4000000 in
theorem cnum_c (p q : Int) (w : World) : Calls Tryz.prog 38 #[.agg #[.int .i64 p, .int .i64 q]] w fun e w' => e = .returned (Value.agg #[.int .i64 3, .int .i64 p, .int .i64 q, .bool false, .slice none 0 0, .slice none 0 0, .int .i64 0]) ∧ Plus w w' := by
  go_enter Tryz.func38, Tryz.ntmps38
  go_wp2_with fail
  go_returns
  exact ⟨rfl, (by repeat' (first | exact Plus.refl _ | refine Plus.alloc ?_ _ | refine Plus.plus ?_ _ | refine Plus.drew ?_ | refine Plus.drewN ?_ _))⟩
set_option maxRecDepth 100000 in
set_option maxHeartbeats 4000000 in
theorem whole_k (z : Int) (w : World) : Calls Tryz.prog 43 #[.int .i64 z] w fun e w' => e = .returned (Value.agg #[.int .i64 3, .int .i64 0, .int .i64 z, .bool false, .slice none 0 0, .slice none 0 0, .int .i64 0]) ∧ Plus w w' := by
  go_enter Tryz.func43, Tryz.ntmps43
  go_wp2_with fail
  go_returns
  exact ⟨rfl, (by repeat' (first | exact Plus.refl _ | refine Plus.alloc ?_ _ | refine Plus.plus ?_ _ | refine Plus.drew ?_ | refine Plus.drewN ?_ _))⟩
/-- A slice of units stands though an older block that holds no unit is written anew. -/
theorem Rd.turn {k : IntKind} {w : World} {cs cs' : Array Value} {e e' : TypeId} {x : More} {A : Option Addr} {xs : List Nat} (h : Rd k (_root_.Go.Proofs.YtmlfcmmgoiigkaaGreatDoor.plus (w.alloc (.cells cs e)) x) A xs) (hc : ∀ v ∈ cs, ∀ z, v ≠ .int k z) : Rd k (_root_.Go.Proofs.YtmlfcmmgoiigkaaGreatDoor.plus (w.alloc (.cells cs' e')) x) A xs := fun h0 => by
  obtain ⟨g, o, rfl, hg, ha⟩ := h h0
  have hne : g ≠ w.heap.size := fun hE => by
    subst hE
    have q := ha 0 h0
    rw [cell?_plus (w.alloc (.cells cs e)) x _ _ (by rw [World.size_alloc]; exact Nat.lt_succ_self _), World.cell?_alloc_at _ _ _ _ rfl] at q
    exact hc _ (Array.mem_of_getElem? q) _ rfl
  refine ⟨g, o, rfl, by rw [size_plus, World.size_alloc] at hg ⊢; exact hg, fun j hj => ?_⟩
  rw [← ha j hj]
  apply World.cell?_of_block
  simp only [_root_.Go.Proofs.YtmlfcmmgoiigkaaGreatDoor.plus, World.alloc]
  rw [Array.getElem?_append, Array.getElem?_append]
  simp only [Array.size_push]
  by_cases hl : g < w.heap.size + 1
  · rw [if_pos hl, if_pos hl, Array.getElem?_push, Array.getElem?_push, if_neg hne, if_neg hne]
  · rw [if_neg hl, if_neg hl]
theorem Ar.turn {k : IntKind} {K : Nat} {w : World} {cs cs' : Array Value} {e e' : TypeId} {x : More} {A : Option Addr} {xs : List Nat} {n c : Nat} (h : Ar k K (_root_.Go.Proofs.YtmlfcmmgoiigkaaGreatDoor.plus (w.alloc (.cells cs e)) x) A xs n c) (hc : ∀ v ∈ cs, ∀ z, v ≠ .int k z) : Ar k K (_root_.Go.Proofs.YtmlfcmmgoiigkaaGreatDoor.plus (w.alloc (.cells cs' e')) x) A xs n c :=
  ⟨h.rd.turn hc, h.len, h.cap, h.max, h.bd⟩
/-- A text's value, new. -/
def StrP (us : List Nat) (m : Nat) (w : World) (e : Ending) (w' : World) : Prop :=
  ∃ (D : Option Addr) (k : Nat), e = .returned (Value.agg #[.int .i64 5, .int .i64 0, .int .i64 0, .bool false, .slice none 0 0, .slice D m k, .int .i64 0]) ∧ Ar .u16 65536 w' D us m k ∧ Plus w w'
theorem no16 : ∀ v ∈ (#[.int .i64 0, .int .i64 0, .int .i64 0, .bool false, .slice none 0 0, .slice none 0 0, .int .i64 0] : Array Value), ∀ z, v ≠ .int .u16 z := by simp
theorem no32 : ∀ v ∈ (#[.int .i64 0, .int .i64 0, .int .i64 0, .bool false, .slice none 0 0, .slice none 0 0, .int .i64 0] : Array Value), ∀ z, v ≠ .int .u32 z := by simp
theorem rascii_n {s : ByteArray} {xs : List Nat} {n : Nat} (hx : Hid (nats s = xs ∧ n = xs.length)) (w : World) (hs : s.size ≤ 1048576) : Calls Tryz.prog 65 #[.string s] w fun e w' => ∃ (A : Option Addr) (c : Nat), e = .returned (.slice A n c) ∧ Ar .u16 65536 w' A xs n c ∧ Plus w w' := refAscii_n s hs xs n hx w
theorem ascii_v {s : ByteArray} {xs : List Nat} {n : Nat} (hx : Hid (nats s = xs ∧ n = xs.length)) (w : World) (hs : s.size ≤ 140737488355328) : Calls Tryz.prog 61 #[.string s] w fun e w' => ∃ (A : Option Addr) (c : Nat), e = .returned (.slice A n c) ∧ Ar .u16 65536 w' A xs n c ∧ Plus w w' := ascii_n s hs xs n hx w
set_option maxRecDepth 100000 in
set_option maxHeartbeats 4000000 in
theorem str_v {s : ByteArray} {xs : List Nat} {n : Nat} (hx : Hid (nats s = xs ∧ n = xs.length)) (w : World) (hs : s.size ≤ 1048576) : Calls Tryz.prog 44 #[.string s] w (StrP xs n w) := by
  go_enter Tryz.func44, Tryz.ntmps44
  go_wp2_with (go_at_call 65; (with_reducible refine (rascii_n hx _ hs).mono ?_); rintro e w1 ⟨D, k, rfl, hD, ⟨x1, rfl⟩⟩; have HD := Lib.hid hD; clear hD)
  go_returns
  exact ⟨D, k, rfl, HD.out.turn no16, (by repeat' (first | exact Plus.refl _ | refine Plus.alloc ?_ _ | refine Plus.plus ?_ _ | refine Plus.drew ?_ | refine Plus.drewN ?_ _))⟩
set_option maxRecDepth 100000 in
set_option maxHeartbeats 4000000 in
theorem cstr_y {A : Option Addr} {us : List Nat} {n c : Nat} (w : World) (h : Ar .u16 65536 w A us n c) (hl : n ≤ 4096) : Calls Tryz.prog 36 #[.slice A n c] w (StrP us n w) := by
  have HU := Lib.hid h
  have hc := h.cap
  have hm := h.max
  clear h
  have b0 : min (n : Int) 4096 = n := by omega
  go_enter Tryz.func36, Tryz.ntmps36
  go_wp2_with (go_at_call 64; (with_reducible refine (clone16_n _ (HU.out.plus (by repeat' (first | exact Plus.refl _ | refine Plus.alloc ?_ _ | refine Plus.plus ?_ _ | refine Plus.drew ?_ | refine Plus.drewN ?_ _))) (by omega)).mono ?_); rintro e w1 ⟨D, k, rfl, hD, ⟨x1, rfl⟩⟩; have HD := Lib.hid hD; clear hD)
  go_returns
  exact ⟨D, k, rfl, HD.out.turn no16, (by repeat' (first | exact Plus.refl _ | refine Plus.alloc ?_ _ | refine Plus.plus ?_ _ | refine Plus.drew ?_ | refine Plus.drewN ?_ _))⟩
set_option maxRecDepth 100000 in
set_option maxHeartbeats 4000000 in
theorem cstr_n {A : Option Addr} {us : List Nat} {n c : Nat} (w : World) (h : Ar .u16 65536 w A us n c) (hl : 4096 < n) : Calls Tryz.prog 36 #[.slice A n c] w (StrP (us.take 4096) 4096 w) := by
  have HU : Hid (Ar .u16 65536 w A (us.take 4096) 4096 c) := Lib.hid ⟨h.rd.take 4096, by rw [List.length_take, ← h.len]; omega, by have := h.cap; omega, h.max, fun x hx => h.bd x (List.mem_of_mem_take hx)⟩
  have hc := h.cap
  have hm := h.max
  clear h
  have b0 : min (n : Int) 4096 = 4096 := by omega
  go_enter Tryz.func36, Tryz.ntmps36
  go_wp2_with (go_at_call 64; (with_reducible refine (clone16_n _ (HU.out.plus (by repeat' (first | exact Plus.refl _ | refine Plus.alloc ?_ _ | refine Plus.plus ?_ _ | refine Plus.drew ?_ | refine Plus.drewN ?_ _))) (by omega)).mono ?_); rintro e w1 ⟨D, k, rfl, hD, ⟨x1, rfl⟩⟩; have HD := Lib.hid hD; clear hD)
  go_returns
  exact ⟨D, k, rfl, HD.out.turn no16, (by repeat' (first | exact Plus.refl _ | refine Plus.alloc ?_ _ | refine Plus.plus ?_ _ | refine Plus.drew ?_ | refine Plus.drewN ?_ _))⟩
end Go.Proofs.YtmlfcmmgoiigkaaGreatDoor

namespace Go.Proofs.YtmlfcmmgoiigkaaGreatDoor
open Go.RowKit

/-- A text that comes with a signal. -/
def TxtP (us : List Nat) (m : Nat) (s : Int) (w : World) (e : Ending) (w' : World) : Prop :=
  ∃ (D : Option Addr) (k : Nat), e = .returned (.tuple #[.slice D m k, .int .i64 s]) ∧ Ar .u16 65536 w' D us m k ∧ Plus w w'
set_option maxRecDepth 100000 in
set_option maxHeartbeats 4000000 in
theorem text_undef {k p q : Int} {g : Bool} {A C : Option Addr} {n c m d : Nat} {r : Int} {A2 C2 : Option Addr} {c2 d2 : Nat} (w : World) (hv : Hid (Vld w (Value.agg #[.int .i64 k, .int .i64 p, .int .i64 q, .bool g, .slice A n c, .slice C m d, .int .i64 r]) (Value.agg #[.int .i64 0, .int .i64 0, .int .i64 0, .bool false, .slice A2 0 c2, .slice C2 0 d2, .int .i64 0]))) {ts : List Nat} {m2 : Nat} (hx : Hid (nats ⟨#[117, 110, 100, 101, 102, 105, 110, 101, 100]⟩ = ts ∧ m2 = ts.length)) (hs2 : (⟨#[117, 110, 100, 101, 102, 105, 110, 101, 100]⟩ : ByteArray).size ≤ 140737488355328) : Calls Tryz.prog 23 #[Value.agg #[.int .i64 k, .int .i64 p, .int .i64 q, .bool g, .slice A n c, .slice C m d, .int .i64 r]] w (TxtP ts m2 0 w) := by
  go_enter Tryz.func23, Tryz.ntmps23
  go_wp2_with (first | (go_at_call 49; (with_reducible refine (Vld.call hv.out (by repeat' (first | exact Plus.refl _ | refine Plus.alloc ?_ _ | refine Plus.plus ?_ _ | refine Plus.drew ?_ | refine Plus.drewN ?_ _))).mono ?_); rintro e w1 ⟨rfl, ⟨x1, rfl⟩⟩) | (go_at_call 61; (with_reducible refine (ascii_v hx _ hs2).mono ?_); rintro e w2 ⟨D, k2, rfl, hD, ⟨x2, rfl⟩⟩; have HD := Lib.hid hD; clear hD))
  go_returns
  exact ⟨D, k2, rfl, HD.out, (by repeat' (first | exact Plus.refl _ | refine Plus.alloc ?_ _ | refine Plus.plus ?_ _ | refine Plus.drew ?_ | refine Plus.drewN ?_ _))⟩
set_option maxRecDepth 100000 in
set_option maxHeartbeats 4000000 in
theorem text_null {k p q : Int} {g : Bool} {A C : Option Addr} {n c m d : Nat} {r : Int} {A2 C2 : Option Addr} {c2 d2 : Nat} (w : World) (hv : Hid (Vld w (Value.agg #[.int .i64 k, .int .i64 p, .int .i64 q, .bool g, .slice A n c, .slice C m d, .int .i64 r]) (Value.agg #[.int .i64 1, .int .i64 0, .int .i64 0, .bool false, .slice A2 0 c2, .slice C2 0 d2, .int .i64 0]))) {ts : List Nat} {m2 : Nat} (hx : Hid (nats ⟨#[110, 117, 108, 108]⟩ = ts ∧ m2 = ts.length)) (hs2 : (⟨#[110, 117, 108, 108]⟩ : ByteArray).size ≤ 140737488355328) : Calls Tryz.prog 23 #[Value.agg #[.int .i64 k, .int .i64 p, .int .i64 q, .bool g, .slice A n c, .slice C m d, .int .i64 r]] w (TxtP ts m2 0 w) := by
  go_enter Tryz.func23, Tryz.ntmps23
  go_wp2_with (first | (go_at_call 49; (with_reducible refine (Vld.call hv.out (by repeat' (first | exact Plus.refl _ | refine Plus.alloc ?_ _ | refine Plus.plus ?_ _ | refine Plus.drew ?_ | refine Plus.drewN ?_ _))).mono ?_); rintro e w1 ⟨rfl, ⟨x1, rfl⟩⟩) | (go_at_call 61; (with_reducible refine (ascii_v hx _ hs2).mono ?_); rintro e w2 ⟨D, k2, rfl, hD, ⟨x2, rfl⟩⟩; have HD := Lib.hid hD; clear hD))
  go_returns
  exact ⟨D, k2, rfl, HD.out, (by repeat' (first | exact Plus.refl _ | refine Plus.alloc ?_ _ | refine Plus.plus ?_ _ | refine Plus.drew ?_ | refine Plus.drewN ?_ _))⟩
set_option maxRecDepth 100000 in
set_option maxHeartbeats 4000000 in
theorem text_tru {k p q : Int} {g : Bool} {A C : Option Addr} {n c m d : Nat} {r : Int} {A2 C2 : Option Addr} {c2 d2 : Nat} (w : World) (hv : Hid (Vld w (Value.agg #[.int .i64 k, .int .i64 p, .int .i64 q, .bool g, .slice A n c, .slice C m d, .int .i64 r]) (Value.agg #[.int .i64 2, .int .i64 0, .int .i64 0, .bool false, .slice A2 0 c2, .slice C2 0 d2, .int .i64 1]))) {ts : List Nat} {m2 : Nat} (hx : Hid (nats ⟨#[116, 114, 117, 101]⟩ = ts ∧ m2 = ts.length)) (hs2 : (⟨#[116, 114, 117, 101]⟩ : ByteArray).size ≤ 140737488355328) : Calls Tryz.prog 23 #[Value.agg #[.int .i64 k, .int .i64 p, .int .i64 q, .bool g, .slice A n c, .slice C m d, .int .i64 r]] w (TxtP ts m2 0 w) := by
  go_enter Tryz.func23, Tryz.ntmps23
  go_wp2_with (first | (go_at_call 49; (with_reducible refine (Vld.call hv.out (by repeat' (first | exact Plus.refl _ | refine Plus.alloc ?_ _ | refine Plus.plus ?_ _ | refine Plus.drew ?_ | refine Plus.drewN ?_ _))).mono ?_); rintro e w1 ⟨rfl, ⟨x1, rfl⟩⟩) | (go_at_call 61; (with_reducible refine (ascii_v hx _ hs2).mono ?_); rintro e w2 ⟨D, k2, rfl, hD, ⟨x2, rfl⟩⟩; have HD := Lib.hid hD; clear hD))
  go_returns
  exact ⟨D, k2, rfl, HD.out, (by repeat' (first | exact Plus.refl _ | refine Plus.alloc ?_ _ | refine Plus.plus ?_ _ | refine Plus.drew ?_ | refine Plus.drewN ?_ _))⟩
set_option maxRecDepth 100000 in
set_option maxHeartbeats 4000000 in
theorem text_fal {k p q : Int} {g : Bool} {A C : Option Addr} {n c m d : Nat} {r : Int} {A2 C2 : Option Addr} {c2 d2 : Nat} (w : World) (hv : Hid (Vld w (Value.agg #[.int .i64 k, .int .i64 p, .int .i64 q, .bool g, .slice A n c, .slice C m d, .int .i64 r]) (Value.agg #[.int .i64 2, .int .i64 0, .int .i64 0, .bool false, .slice A2 0 c2, .slice C2 0 d2, .int .i64 0]))) {ts : List Nat} {m2 : Nat} (hx : Hid (nats ⟨#[102, 97, 108, 115, 101]⟩ = ts ∧ m2 = ts.length)) (hs2 : (⟨#[102, 97, 108, 115, 101]⟩ : ByteArray).size ≤ 140737488355328) : Calls Tryz.prog 23 #[Value.agg #[.int .i64 k, .int .i64 p, .int .i64 q, .bool g, .slice A n c, .slice C m d, .int .i64 r]] w (TxtP ts m2 0 w) := by
  go_enter Tryz.func23, Tryz.ntmps23
  go_wp2_with (first | (go_at_call 49; (with_reducible refine (Vld.call hv.out (by repeat' (first | exact Plus.refl _ | refine Plus.alloc ?_ _ | refine Plus.plus ?_ _ | refine Plus.drew ?_ | refine Plus.drewN ?_ _))).mono ?_); rintro e w1 ⟨rfl, ⟨x1, rfl⟩⟩) | (go_at_call 61; (with_reducible refine (ascii_v hx _ hs2).mono ?_); rintro e w2 ⟨D, k2, rfl, hD, ⟨x2, rfl⟩⟩; have HD := Lib.hid hD; clear hD))
  go_returns
  exact ⟨D, k2, rfl, HD.out, (by repeat' (first | exact Plus.refl _ | refine Plus.alloc ?_ _ | refine Plus.plus ?_ _ | refine Plus.drew ?_ | refine Plus.drewN ?_ _))⟩
set_option maxRecDepth 100000 in
set_option maxHeartbeats 4000000 in
theorem text_num {k p q : Int} {g : Bool} {A C : Option Addr} {n c m d : Nat} {r : Int} {p2 q2 : Int} {A2 C2 : Option Addr} {c2 d2 : Nat} (w : World) (hv : Hid (Vld w (Value.agg #[.int .i64 k, .int .i64 p, .int .i64 q, .bool g, .slice A n c, .slice C m d, .int .i64 r]) (Value.agg #[.int .i64 3, .int .i64 p2, .int .i64 q2, .bool false, .slice A2 0 c2, .slice C2 0 d2, .int .i64 0]))) {T : ByteArray} {ts : List Nat} {m2 : Nat} (hT : Hid ((⟨(txtR p2 q2).toArray⟩ : ByteArray) = T)) (hL : Hid (Lai w)) (hx : Hid (nats T = ts ∧ m2 = ts.length)) (hs2 : T.size ≤ 140737488355328) : Calls Tryz.prog 23 #[Value.agg #[.int .i64 k, .int .i64 p, .int .i64 q, .bool g, .slice A n c, .slice C m d, .int .i64 r]] w (TxtP ts m2 0 w) := by
  go_enter Tryz.func23, Tryz.ntmps23
  go_wp2_with (first | (go_at_call 49; (with_reducible refine (Vld.call hv.out (by repeat' (first | exact Plus.refl _ | refine Plus.alloc ?_ _ | refine Plus.plus ?_ _ | refine Plus.drew ?_ | refine Plus.drewN ?_ _))).mono ?_); rintro e w1 ⟨rfl, ⟨x1, rfl⟩⟩) | (go_at_call 62; (with_reducible refine (text_v hT _ (hL.out.plus (by repeat' (first | exact Plus.refl _ | refine Plus.alloc ?_ _ | refine Plus.plus ?_ _ | refine Plus.drew ?_ | refine Plus.drewN ?_ _)))).mono ?_); rintro e w2 ⟨rfl, ⟨x3, rfl⟩⟩) | (go_at_call 61; (with_reducible refine (ascii_v hx _ hs2).mono ?_); rintro e w2 ⟨D, k2, rfl, hD, ⟨x2, rfl⟩⟩; have HD := Lib.hid hD; clear hD))
  go_returns
  exact ⟨D, k2, rfl, HD.out, (by repeat' (first | exact Plus.refl _ | refine Plus.alloc ?_ _ | refine Plus.plus ?_ _ | refine Plus.drew ?_ | refine Plus.drewN ?_ _))⟩
theorem btext_v {an : Bool} {A : Option Addr} {xs : List Nat} {n c : Nat} {a : Int} (hA : Hid (Bg.bigI an xs = a)) {T : ByteArray} (hr : Hid ((⟨(Bg.txt a).toArray⟩ : ByteArray) = T)) (w : World) (ha : Bg.Arg w A xs n c) : Calls Tryz.prog 63 #[.agg #[.bool an, .slice A n c]] w fun e w' => e = .returned (.string T) ∧ Plus w w' := Bg.text_n hA hr w ha
set_option maxRecDepth 100000 in
set_option maxHeartbeats 4000000 in
theorem text_big {k p q : Int} {g : Bool} {A C : Option Addr} {n c m d : Nat} {r : Int} {g2 : Bool} {A2 C2 : Option Addr} {xs2 : List Nat} {n2 c2 d2 : Nat} (w : World) (hv : Hid (Vld w (Value.agg #[.int .i64 k, .int .i64 p, .int .i64 q, .bool g, .slice A n c, .slice C m d, .int .i64 r]) (Value.agg #[.int .i64 4, .int .i64 0, .int .i64 0, .bool g2, .slice A2 n2 c2, .slice C2 0 d2, .int .i64 0]))) (hb : Hid (Bg.Arg w A2 xs2 n2 c2)) {z : Int} {T : ByteArray} {ts : List Nat} {m2 : Nat} (hz : Hid (Bg.bigI g2 xs2 = z)) (hT : Hid ((⟨(Bg.txt z).toArray⟩ : ByteArray) = T)) (hx : Hid (nats T = ts ∧ m2 = ts.length)) (hs2 : T.size ≤ 140737488355328) : Calls Tryz.prog 23 #[Value.agg #[.int .i64 k, .int .i64 p, .int .i64 q, .bool g, .slice A n c, .slice C m d, .int .i64 r]] w (TxtP ts m2 0 w) := by
  go_enter Tryz.func23, Tryz.ntmps23
  go_wp2_with (first | (go_at_call 49; (with_reducible refine (Vld.call hv.out (by repeat' (first | exact Plus.refl _ | refine Plus.alloc ?_ _ | refine Plus.plus ?_ _ | refine Plus.drew ?_ | refine Plus.drewN ?_ _))).mono ?_); rintro e w1 ⟨rfl, ⟨x1, rfl⟩⟩) | (go_at_call 63; (with_reducible refine (btext_v hz hT _ (hb.out.plus (by repeat' (first | exact Plus.refl _ | refine Plus.alloc ?_ _ | refine Plus.plus ?_ _ | refine Plus.drew ?_ | refine Plus.drewN ?_ _)))).mono ?_); rintro e w2 ⟨rfl, ⟨x3, rfl⟩⟩) | (go_at_call 61; (with_reducible refine (ascii_v hx _ hs2).mono ?_); rintro e w2 ⟨D, k2, rfl, hD, ⟨x2, rfl⟩⟩; have HD := Lib.hid hD; clear hD))
  go_returns
  exact ⟨D, k2, rfl, HD.out, (by repeat' (first | exact Plus.refl _ | refine Plus.alloc ?_ _ | refine Plus.plus ?_ _ | refine Plus.drew ?_ | refine Plus.drewN ?_ _))⟩
set_option maxRecDepth 100000 in
set_option maxHeartbeats 4000000 in
theorem text_text {k p q : Int} {g : Bool} {A C : Option Addr} {n c m d : Nat} {r : Int} {A2 C2 : Option Addr} {us2 : List Nat} {c2 m2 d2 : Nat} (w : World) (hv : Hid (Vld w (Value.agg #[.int .i64 k, .int .i64 p, .int .i64 q, .bool g, .slice A n c, .slice C m d, .int .i64 r]) (Value.agg #[.int .i64 5, .int .i64 0, .int .i64 0, .bool false, .slice A2 0 c2, .slice C2 m2 d2, .int .i64 0]))) (hs : Hid (Ar .u16 65536 w C2 us2 m2 d2)) (hm : m2 ≤ 4096) : Calls Tryz.prog 23 #[Value.agg #[.int .i64 k, .int .i64 p, .int .i64 q, .bool g, .slice A n c, .slice C m d, .int .i64 r]] w (TxtP us2 m2 0 w) := by
  go_enter Tryz.func23, Tryz.ntmps23
  go_wp2_with (first | (go_at_call 49; (with_reducible refine (Vld.call hv.out (by repeat' (first | exact Plus.refl _ | refine Plus.alloc ?_ _ | refine Plus.plus ?_ _ | refine Plus.drew ?_ | refine Plus.drewN ?_ _))).mono ?_); rintro e w1 ⟨rfl, ⟨x1, rfl⟩⟩) | (go_at_call 64; (with_reducible refine (clone16_n _ (hs.out.plus (by repeat' (first | exact Plus.refl _ | refine Plus.alloc ?_ _ | refine Plus.plus ?_ _ | refine Plus.drew ?_ | refine Plus.drewN ?_ _))) (by omega)).mono ?_); rintro e w2 ⟨D, k2, rfl, hD, ⟨x2, rfl⟩⟩; have HD := Lib.hid hD; clear hD))
  go_returns
  exact ⟨D, k2, rfl, HD.out, (by repeat' (first | exact Plus.refl _ | refine Plus.alloc ?_ _ | refine Plus.plus ?_ _ | refine Plus.drew ?_ | refine Plus.drewN ?_ _))⟩
set_option maxRecDepth 100000 in
set_option maxHeartbeats 4000000 in
theorem text_obj {k p q : Int} {g : Bool} {A C : Option Addr} {n c m d : Nat} {r : Int} {A2 C2 : Option Addr} {c2 d2 : Nat} {r2 : Int} (w : World) (hv : Hid (Vld w (Value.agg #[.int .i64 k, .int .i64 p, .int .i64 q, .bool g, .slice A n c, .slice C m d, .int .i64 r]) (Value.agg #[.int .i64 6, .int .i64 0, .int .i64 0, .bool false, .slice A2 0 c2, .slice C2 0 d2, .int .i64 r2]))) : Calls Tryz.prog 23 #[Value.agg #[.int .i64 k, .int .i64 p, .int .i64 q, .bool g, .slice A n c, .slice C m d, .int .i64 r]] w (TxtP [] 0 3 w) := by
  go_enter Tryz.func23, Tryz.ntmps23
  go_wp2_with (go_at_call 49; (with_reducible refine (Vld.call hv.out (by repeat' (first | exact Plus.refl _ | refine Plus.alloc ?_ _ | refine Plus.plus ?_ _ | refine Plus.drew ?_ | refine Plus.drewN ?_ _))).mono ?_); rintro e w1 ⟨rfl, ⟨x1, rfl⟩⟩)
  go_returns
  exact ⟨none, 0, rfl, Ar.nil _ _ _ _ (by omega) _, (by repeat' (first | exact Plus.refl _ | refine Plus.alloc ?_ _ | refine Plus.plus ?_ _ | refine Plus.drew ?_ | refine Plus.drewN ?_ _))⟩
/-- A text and a signal. -/
structure T2 where
  t : List Nat
  s : Int
def u8n (l : List UInt8) : List Nat := l.map UInt8.toNat
theorem nats_mk (l : List UInt8) : nats ⟨l.toArray⟩ = u8n l := by simp [nats, u8n]
def txtJ : JV → T2
  | .undef => ⟨u8n [117, 110, 100, 101, 102, 105, 110, 101, 100], 0⟩
  | .null => ⟨u8n [110, 117, 108, 108], 0⟩
  | .bool b => ⟨u8n (if b then [116, 114, 117, 101] else [102, 97, 108, 115, 101]), 0⟩
  | .num p q => ⟨u8n (txtS p q), 0⟩
  | .big z => ⟨u8n (Bg.txt z), 0⟩
  | .text us => ⟨us, 0⟩
  | .obj _ => ⟨[], 3⟩
theorem bigI_lt {g : Bool} {xs : List Nat} (ho : Bg.okL xs) : (Bg.bigI g xs).natAbs < Bg.B ^ 8 := Bg.bigI_abs ho
theorem bdec_len {n : Nat} (h : n < Bg.B ^ 8) : (Bg.dec n).length ≤ 78 := by
  by_cases h0 : n = 0
  · subst h0
    rw [Bg.dec_small (by omega)]
    simp
  · have e : Bg.dec n = Bg.dec0 n := by unfold Bg.dec0; rw [if_neg h0]
    rw [e]
    exact Bg.dec0_len 78 n (Nat.lt_of_lt_of_le h (by rw [Bg.B_eq]; decide))
theorem txt_len {z : Int} (h : z.natAbs < Bg.B ^ 8) : (Bg.txt z).length ≤ 79 := by
  have := bdec_len h
  unfold Bg.txt
  split
  · simp; omega
  · omega
theorem ctext_v {k p q : Int} {g : Bool} {A C : Option Addr} {n c m d : Nat} {r : Int} {v' : Value} {x : JV} {ts : List Nat} {m2 : Nat} {s : Int} (hJ : Hid (txtJ x = ⟨ts, s⟩ ∧ m2 = ts.length)) (w : World) (hL : Lai w) (hn : NV w v' x) (hv : Vld w (Value.agg #[.int .i64 k, .int .i64 p, .int .i64 q, .bool g, .slice A n c, .slice C m d, .int .i64 r]) v') :
    Calls Tryz.prog 23 #[Value.agg #[.int .i64 k, .int .i64 p, .int .i64 q, .bool g, .slice A n c, .slice C m d, .int .i64 r]] w (TxtP ts m2 s w) := by
  obtain ⟨q, rfl⟩ := hJ.out
  cases x with
  | undef =>
    obtain ⟨A2, C2, c2, d2, rfl, h1, h2⟩ := hn
    simp only [txtJ, T2.mk.injEq] at q
    obtain ⟨rfl, rfl⟩ := q
    exact text_undef w (Lib.hid hv) (Lib.hid ⟨by decide, rfl⟩) (by decide)
  | null =>
    obtain ⟨A2, C2, c2, d2, rfl, h1, h2⟩ := hn
    simp only [txtJ, T2.mk.injEq] at q
    obtain ⟨rfl, rfl⟩ := q
    exact text_null w (Lib.hid hv) (Lib.hid ⟨by decide, rfl⟩) (by decide)
  | bool b0 =>
    obtain ⟨A2, C2, c2, d2, rfl, h1, h2⟩ := hn
    simp only [txtJ, T2.mk.injEq] at q
    obtain ⟨rfl, rfl⟩ := q
    cases b0
    · exact text_fal w (Lib.hid hv) (Lib.hid ⟨by decide, rfl⟩) (by decide)
    · exact text_tru w (Lib.hid hv) (Lib.hid ⟨by decide, rfl⟩) (by decide)
  | num p2 q2 =>
    obtain ⟨A2, C2, c2, d2, rfl, h1, h2, h3⟩ := hn
    simp only [txtJ, T2.mk.injEq] at q
    obtain ⟨rfl, rfl⟩ := q
    have e : txtR p2 q2 = txtS p2 q2 := by unfold txtR; rw [vk_of h3, vn_of h3]
    exact text_num (T := ⟨(txtS p2 q2).toArray⟩) w (Lib.hid hv) (Lib.hid (by rw [e])) (Lib.hid hL) (Lib.hid ⟨nats_mk _, rfl⟩) (Nat.le_trans (txt_size h3) (by omega))
  | big z =>
    obtain ⟨g2, A2, C2, xs2, n2, c2, d2, rfl, h1, h2, rfl, h4⟩ := hn
    simp only [txtJ, T2.mk.injEq] at q
    obtain ⟨rfl, rfl⟩ := q
    exact text_big (T := ⟨(Bg.txt (Bg.bigI g2 xs2)).toArray⟩) w (Lib.hid hv) (Lib.hid h4) (Lib.hid rfl) (Lib.hid rfl) (Lib.hid ⟨nats_mk _, rfl⟩) (by have := txt_len (bigI_lt (g := g2) h4.lim.1); show (Bg.txt (Bg.bigI g2 xs2)).toArray.size ≤ _; rw [List.size_toArray]; omega)
  | text us2 =>
    obtain ⟨A2, C2, c2, m2, d2, rfl, h1, h2, h3⟩ := hn
    simp only [txtJ, T2.mk.injEq] at q
    obtain ⟨rfl, rfl⟩ := q
    have hl := h3.len
    subst hl
    exact text_text w (Lib.hid hv) (Lib.hid h3) h2
  | obj r2 =>
    obtain ⟨A2, C2, c2, d2, rfl, h1, h2, h3⟩ := hn
    simp only [txtJ, T2.mk.injEq] at q
    obtain ⟨rfl, rfl⟩ := q
    exact text_obj w (Lib.hid hv)
/-- A BigInt's value of one limb. -/
def BigP (z : Nat) (w : World) (e : Ending) (w' : World) : Prop :=
  ∃ (D : Option Addr) (k : Nat), e = .returned (Value.agg #[.int .i64 4, .int .i64 0, .int .i64 0, .bool false, .slice D 1 k, .slice none 0 0, .int .i64 0]) ∧ Ar .u32 4294967296 w' D [z] 1 k ∧ Plus w w'
set_option maxRecDepth 100000 in
set_option maxHeartbeats 4000000 in
theorem big_v (z : Nat) (hz : z < 4294967296) (w : World) : Calls Tryz.prog 46 #[.int .u32 (z : Int)] w (BigP z w) := by
  go_enter Tryz.func46, Tryz.ntmps46
  go_wp2_with fail
  go_returns
  refine ⟨_, _, rfl, ?_, (by repeat' (first | exact Plus.refl _ | refine Plus.alloc ?_ _ | refine Plus.plus ?_ _ | refine Plus.drew ?_ | refine Plus.drewN ?_ _))⟩
  exact ar_new rfl (by rw [World.size_alloc]) rfl rfl (by intro x hx; simp at hx; omega) (by omega)
end Go.Proofs.YtmlfcmmgoiigkaaGreatDoor
