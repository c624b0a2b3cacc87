/- The chapter's examples: what the first check of each statement asks. -/
import Derived.Test.YtdckonlipinblaaGreatDoorN5
namespace Go.Proofs.YtdckonlipinblaaGreatDoor
open Go.RowKit


/-- A slice that the call has just laid. -/
theorem ar_new {w W : World} {g n : Nat} {k : IntKind} {K : Nat} {cs : Array Value} {t : TypeId} {xs : List Nat} (hW : W = w.alloc (.cells cs t)) (hg : g = w.heap.size) (hn : n = xs.length) (hc : cs.toList = vals k xs) (hb : ∀ x ∈ xs, x < K) (hm : n ≤ 9223372036854775807) : Ar k K W (some ⟨g, 0, none⟩) xs n n := by
  subst hW hg hn
  refine ⟨fun _ => ⟨w.heap.size, 0, rfl, by simp, fun j hj => ?_⟩, rfl, Nat.le_refl _, hm, hb⟩
  rw [Nat.zero_add, World.cell?_alloc_at _ _ _ _ rfl]
  have e : cs[j]? = cs.toList[j]? := by simp
  rw [e, hc]
  unfold vals
  rw [List.getElem?_map, List.getElem?_eq_getElem hj, List.getD_eq_getElem?_getD, List.getElem?_eq_getElem hj]
  rfl
theorem ar_of {k : IntKind} {K : Nat} {w : World} {A : Option Addr} {xs : List Nat} {n c : Nat} (h : Rd k w A xs) (hn : n = xs.length) (hc : n ≤ c) (hm : c ≤ 9223372036854775807) (hb : ∀ x ∈ xs, x < K) : Ar k K w A xs n c := ⟨h, hn, hc, hm, hb⟩
theorem nats_U (s : ByteArray) : ∀ x ∈ nats s, x < 65536 := fun x hx => by have := nats_B s x hx; omega
theorem deu_smile : deu [240, 159, 152, 128] = ([55357, 56832], 4, true) := by
  have e : [240, 159, 152, 128] = bts 128512 ++ [] := by decide
  rw [e, deu_bts (by unfold okV; decide), deu_nil]
  rfl
theorem deu_over : deu [97, 192, 128] = ([97], 1, false) := by
  have e : [97, 192, 128] = bts 97 ++ [192, 128] := by decide
  rw [e, deu_bts (by unfold okV; decide), deu_bad (by simp) (by decide)]
  rfl
/-- Units at known bytes. -/
theorem units_k {A : Option Addr} {xs : List Nat} {n c : Nat} {w : World} (hL : Lai w) (h : Ar .u8 256 w A xs n c) (hl : n ≤ 4096) {us L : List Nat} {p at_ er : Nat} {ok : Bool} (hd : Hid (deu xs = (us, p, ok))) (hr : Hid ((ok = true → L = us ∧ at_ = 0 ∧ er = 0) ∧ (ok = false → L = [] ∧ at_ = p ∧ er = 2))) :
    Calls Tryz.prog 18 #[.slice A n c] w (UniP L at_ er w) := by
  refine units_h A xs n c w (Lib.hid hL) h hl L at_ er (Lib.hid ?_) (Lib.hid ?_)
  · rw [hd.out]; exact hr.out.1
  · rw [hd.out]; exact hr.out.2
theorem num_k {A : Option Addr} {n c : Nat} {w : World} (hL : Lai w) (h : Ar .u16 65536 w A [32, 49, 50, 32] n c) : Calls Tryz.prog 7 #[.slice A n c] w fun e w' => e = .returned (.tuple #[.agg #[.int .i64 0, .int .i64 12], .bool true]) ∧ Plus w w' := by
  have hn := h.len
  simp at hn
  refine number_dig A [32, 49, 50, 32] n c w (Lib.hid hL) (Lib.hid h) (by omega) (Lib.hid (by decide)) [49, 50] (Lib.hid (by decide)) (by decide) (Lib.hid (by decide)) [49, 50] (Lib.hid (by decide)) false (Lib.hid (by decide)) (Lib.hid (by decide)) (Lib.hid (by decide)) (by decide) (Lib.hid (by decide))
    0 12 true (Lib.hid ?_) (by decide) _ _ (Lib.hid rfl) (Lib.hid rfl)
  kernel_rfl
theorem num_k2 {A : Option Addr} {n c : Nat} {w : World} (h : Ar .u16 65536 w A [49, 46, 53] n c) : Calls Tryz.prog 7 #[.slice A n c] w fun e w' => e = .returned (.tuple #[.agg #[.int .i64 2, .int .i64 0], .bool false]) ∧ Plus w w' := by
  have hn := h.len
  simp at hn
  exact number_none A [49, 46, 53] n c w (Lib.hid h) (by omega) (Lib.hid (by decide)) [49, 46, 53] (Lib.hid (by decide)) (by decide) (Lib.hid (by decide)) [49, 46, 53] (Lib.hid (by decide)) false (Lib.hid (by decide)) (Lib.hid (by decide)) (by decide) (by decide) (Lib.hid (by unfold asc; decide)) (Lib.hid (by decide))
    true true false (Lib.hid (by decide)) (Lib.hid (by decide)) (Lib.hid rfl)
theorem key_k {A : Option Addr} {n c : Nat} {w : World} (hL : Lai w) (h : Ar .u16 65536 w A [52, 50, 57, 52, 57, 54, 55, 50, 57, 52] n c) : Calls Tryz.prog 9 #[.slice A n c] w fun e w' => e = .returned (.tuple #[.int .i64 4294967294, .bool true]) ∧ Plus w w' := by
  have hn := h.len
  simp at hn
  refine key_h A _ n c w (Lib.hid hL) (Lib.hid h) (by omega) 0 4294967294 true (Lib.hid ?_) _ _ (Lib.hid (.inl ⟨⟨rfl, rfl, by omega, by omega⟩, rfl, rfl⟩))
  kernel_rfl
theorem key_k2 {A : Option Addr} {n c : Nat} {w : World} (hL : Lai w) (h : Ar .u16 65536 w A [48, 55] n c) : Calls Tryz.prog 9 #[.slice A n c] w fun e w' => e = .returned (.tuple #[.int .i64 0, .bool false]) ∧ Plus w w' := by
  have hn := h.len
  simp at hn
  refine key_h A _ n c w (Lib.hid hL) (Lib.hid h) (by omega) 2 0 false (Lib.hid ?_) _ _ (Lib.hid (.inr ⟨by simp, rfl, rfl⟩))
  kernel_rfl
theorem units_1 {A : Option Addr} {n c : Nat} {w : World} (hL : Lai w) (h : Ar .u8 256 w A [240, 159, 152, 128] n c) : Calls Tryz.prog 18 #[.slice A n c] w fun e w' => ∃ g o d : Nat, e = .returned (.tuple #[.slice (some ⟨g, o, none⟩) 2 d, .int .i64 0, .int .i64 0]) ∧ g < w'.heap.size ∧ w'.cell? ⟨g, o, none⟩ = some (.int .u16 55357) ∧ w'.cell? ⟨g, o + 1, none⟩ = some (.int .u16 56832) ∧ Plus w w' := by
  have hn := h.len
  simp at hn
  refine (units_k hL h (by omega) (L := [55357, 56832]) (at_ := 0) (er := 0) (Lib.hid deu_smile) (Lib.hid ⟨fun _ => ⟨rfl, rfl, rfl⟩, fun q => by cases q⟩)).mono ?_
  rintro e w' ⟨C, d, rfl, q1, q2, q3, q4⟩
  obtain ⟨g, o, rfl, hg, hat⟩ := q3 (by simp)
  exact ⟨g, o, d, rfl, hg, hat 0 (by simp), hat 1 (by simp), q4⟩
theorem units_2 {A : Option Addr} {n c : Nat} {w : World} (hL : Lai w) (h : Ar .u8 256 w A [97, 192, 128] n c) : Calls Tryz.prog 18 #[.slice A n c] w fun e w' => ∃ (C : Option Addr) (d : Nat), e = .returned (.tuple #[.slice C 0 d, .int .i64 1, .int .i64 2]) ∧ Plus w w' := by
  have hn := h.len
  simp at hn
  refine (units_k hL h (by omega) (L := []) (at_ := 1) (er := 2) (Lib.hid deu_over) (Lib.hid ⟨(fun q => by cases q), fun _ => ⟨rfl, rfl, rfl⟩⟩)).mono ?_
  rintro e w' ⟨C, d, rfl, q1, q2, q3, q4⟩
  exact ⟨C, d, rfl, q4⟩
theorem ascii_n (s : ByteArray) (hs : s.size ≤ 140737488355328) (xs : List Nat) (n : Nat) (hx : Hid (nats s = xs ∧ n = xs.length)) (w : World) : Calls Tryz.prog 16 #[.string s] w fun e w' => ∃ (A : Option Addr) (c : Nat), e = .returned (.slice A n c) ∧ Ar .u16 65536 w' A xs n c ∧ Plus w w' := by
  refine (ascii_c s hs w).mono ?_
  rintro e w' ⟨A, c, rfl, q1, q2, q3, q4⟩
  obtain ⟨rfl, rfl⟩ := hx.out
  exact ⟨A, c, rfl, ⟨q3, rfl, q1, q2, nats_U s⟩, q4⟩
set_option maxRecDepth 100000 in
set_option maxHeartbeats 16000000 in
theorem first_h (w : World) (hL : Hid (Lai w)) (h1 : Hid (nats ⟨#[32, 49, 50, 32]⟩ = [32, 49, 50, 32] ∧ 4 = [32, 49, 50, 32].length)) (h2 : Hid (nats ⟨#[49, 46, 53]⟩ = [49, 46, 53] ∧ 3 = [49, 46, 53].length))
    (h3 : Hid (nats ⟨#[52, 50, 57, 52, 57, 54, 55, 50, 57, 52]⟩ = [52, 50, 57, 52, 57, 54, 55, 50, 57, 52] ∧ 10 = [52, 50, 57, 52, 57, 54, 55, 50, 57, 52].length)) (h4 : Hid (nats ⟨#[48, 55]⟩ = [48, 55] ∧ 2 = [48, 55].length)) :
    Calls Tryz.prog 4 #[] w fun e w' => e = .returned (.bool true) ∧ Plus w w' := by
  go_enter Tryz.func4, Tryz.ntmps4
  go_wp2_with fail
  refine (units_1 (hL.out.plus (by repeat' (first | exact Plus.refl _ | refine Plus.alloc ?_ _ | refine Plus.plus ?_ _ | refine Plus.drew ?_ | refine Plus.drewN ?_ _))) (ar_new (cs := #[.int .u8 240, .int .u8 159, .int .u8 152, .int .u8 128]) rfl rfl rfl rfl (by decide) (by decide))).mono ?_
  rintro e w1 ⟨g, o, d, rfl, hg, c0, c1, ⟨x1, rfl⟩⟩
  haveI : Old g (plus (w.alloc (.cells #[.int .u8 240, .int .u8 159, .int .u8 152, .int .u8 128] 5)) x1) := ⟨hg⟩
  clear hg
  go_wp2_with fail
  refine (units_2 (hL.out.plus (by repeat' (first | exact Plus.refl _ | refine Plus.alloc ?_ _ | refine Plus.plus ?_ _ | refine Plus.drew ?_ | refine Plus.drewN ?_ _))) (ar_new (cs := #[.int .u8 97, .int .u8 192, .int .u8 128]) rfl (by simp [size_plus]) rfl rfl (by decide) (by decide))).mono ?_
  rintro e w1 ⟨C2, d2, rfl, ⟨x2, rfl⟩⟩
  go_wp2_with fail
  refine (ascii_n _ (by decide) _ 4 h1 _).mono ?_
  rintro e w1 ⟨A3, d3, rfl, a3, ⟨x3, rfl⟩⟩
  replace a3 := Lib.hid a3
  go_wp2_with fail
  refine (num_k (hL.out.plus (by repeat' (first | exact Plus.refl _ | refine Plus.alloc ?_ _ | refine Plus.plus ?_ _ | refine Plus.drew ?_ | refine Plus.drewN ?_ _))) (a3.out.plus (by repeat' (first | exact Plus.refl _ | refine Plus.alloc ?_ _ | refine Plus.plus ?_ _ | refine Plus.drew ?_ | refine Plus.drewN ?_ _)))).mono ?_
  rintro e w1 ⟨rfl, ⟨x4, rfl⟩⟩
  clear a3
  go_wp2_with fail
  refine (ascii_n _ (by decide) _ 3 h2 _).mono ?_
  rintro e w1 ⟨A3, d3, rfl, a3, ⟨x5, rfl⟩⟩
  replace a3 := Lib.hid a3
  go_wp2_with fail
  refine (num_k2 (a3.out.plus (by repeat' (first | exact Plus.refl _ | refine Plus.alloc ?_ _ | refine Plus.plus ?_ _ | refine Plus.drew ?_ | refine Plus.drewN ?_ _)))).mono ?_
  rintro e w1 ⟨rfl, ⟨x6, rfl⟩⟩
  clear a3
  go_wp2_with fail
  refine (ascii_n _ (by decide) _ 10 h3 _).mono ?_
  rintro e w1 ⟨A3, d3, rfl, a3, ⟨x7, rfl⟩⟩
  replace a3 := Lib.hid a3
  go_wp2_with fail
  refine (key_k (hL.out.plus (by repeat' (first | exact Plus.refl _ | refine Plus.alloc ?_ _ | refine Plus.plus ?_ _ | refine Plus.drew ?_ | refine Plus.drewN ?_ _))) (a3.out.plus (by repeat' (first | exact Plus.refl _ | refine Plus.alloc ?_ _ | refine Plus.plus ?_ _ | refine Plus.drew ?_ | refine Plus.drewN ?_ _)))).mono ?_
  rintro e w1 ⟨rfl, ⟨x8, rfl⟩⟩
  clear a3
  go_wp2_with fail
  refine (ascii_n _ (by decide) _ 2 h4 _).mono ?_
  rintro e w1 ⟨A3, d3, rfl, a3, ⟨x9, rfl⟩⟩
  replace a3 := Lib.hid a3
  go_wp2_with fail
  refine (key_k2 (hL.out.plus (by repeat' (first | exact Plus.refl _ | refine Plus.alloc ?_ _ | refine Plus.plus ?_ _ | refine Plus.drew ?_ | refine Plus.drewN ?_ _))) (a3.out.plus (by repeat' (first | exact Plus.refl _ | refine Plus.alloc ?_ _ | refine Plus.plus ?_ _ | refine Plus.drew ?_ | refine Plus.drewN ?_ _)))).mono ?_
  rintro e w1 ⟨rfl, ⟨x10, rfl⟩⟩
  clear a3
  go_wp2_with fail
  go_returns
  exact ⟨rfl, (by repeat' (first | exact Plus.refl _ | refine Plus.alloc ?_ _ | refine Plus.plus ?_ _ | refine Plus.drew ?_ | refine Plus.drewN ?_ _))⟩
theorem first_c (w : World) (hL : Lai w) : Calls Tryz.prog 4 #[] w fun e w' => e = .returned (.bool true) ∧ Plus w w' :=
  first_h w (Lib.hid hL) (Lib.hid ⟨by decide, rfl⟩) (Lib.hid ⟨by decide, rfl⟩) (Lib.hid ⟨by decide, rfl⟩) (Lib.hid ⟨by decide, rfl⟩)
end Go.Proofs.YtdckonlipinblaaGreatDoor
