/- What the chapter's examples fix. -/
import Derived.WalkKit
import Derived.WalkSpells
import Derived.WalkLawsBesides
import Derived.Handy
import Derived.Deep.RegionHeld3
import Derived.Deep.DeepCutAuto
import Derived.Deep.QuietTactic
import Derived.BigQuiet
import Derived.Lib.Hide
import Derived.KernelRfl
import Derived.WalkMore
import Derived.Deep.LoopGhost
import Derived.IntWalk
import Derived.Deep.RegionLaw
import Derived.RangeFuncBox
import Derived.Test.YtmfdlcicbiincaaDoorNP
namespace Go.Proofs.YtmfdlcicbiincaaDoor
open Go.RowKit


theorem es_new {W : World} {ys : List ER} {cs : Array Value} {g n : Nat} (hcs : cs.toList = rowE ys) (hg : g = W.heap.size) (hm : ∀ y ∈ ys, ERM (W.alloc (.cells cs 42)) y) (hn : n = ys.length) (hl : n ≤ 1000) : Es (W.alloc (.cells cs 42)) (some ⟨g, 0, none⟩) ys n n := by
  subst hn
  have hlen : ∀ zs : List ER, (rowE zs).length = zs.length * 10 := fun zs => by
    induction zs with
    | nil => rfl
    | cons y zs ih =>
      have e : rowE (y :: zs) = evL y ++ rowE zs := rfl
      have e2 : (evL y).length = 10 := rfl
      rw [e, List.length_append, ih, e2, List.length_cons]
      omega
  have hsz : cs.size = ys.length * 10 := by rw [← hlen, ← hcs, Array.length_toList]
  refine es_of_own (B := 0) ⟨hlen ys, .inr ⟨g, ys.length, cs, rfl, Nat.zero_le _, new_at _ _ hg, Nat.le_refl _, by unfold maxLen; omega, by rw [hsz], ?_⟩⟩ hm
  rw [hcs, List.take_of_length_le]
  rw [hlen]
  exact Nat.le_refl _
theorem ar_undrew {k : IntKind} {w : World} {x : More} {A : Option Addr} {xs : List Int} {n c : Nat} (h : Ar k (plus w.drew x) A xs n c) : Ar k (plus w x) A xs n c := h
set_option maxRecDepth 100000 in
set_option maxHeartbeats 4000000 in
theorem first_c (w : World) (hL : Lai w) : Calls Tryd.prog 23 #[] w fun e w' => e = .returned (.bool true) ∧ Plus w w' := by
  have HLA := Lib.hid hL
  clear hL
  go_enter Tryd.func23, Tryd.ntmps23
  go_wp2_with (first | (go_at_call 39; (with_reducible refine (st_c (a := 0) (x := 1) (s := true) _).mono ?_); rintro e xw ⟨X1, rfl, hs1, ⟨x1, rfl⟩⟩; have HS1 := Lib.hid hs1; clear hs1) | (go_at_call 39; (with_reducible refine (st_c (a := 0) (x := 2) (s := true) _).mono ?_); rintro e xw ⟨X2, rfl, hs2, ⟨x2, rfl⟩⟩; have HS2 := Lib.hid hs2; clear hs2) | (go_at_call 39; (with_reducible refine (st_c (a := 0) (x := 1) (s := false) _).mono ?_); rintro e xw ⟨X3, rfl, hs3, ⟨x3, rfl⟩⟩; have HS3 := Lib.hid hs3; clear hs3) | (go_at_call 40; (with_reducible refine (ld_c (a := 1) (x := 1) (f := 0) (s := true) _).mono ?_); rintro e xw ⟨X4, Y4, rfl, hs4, ht4, ⟨x4, rfl⟩⟩; have HS4 := Lib.hid hs4; have HT4 := Lib.hid ht4; clear hs4 ht4) | (go_at_call 40; (with_reducible refine (ld_c (a := 0) (x := 0) (f := -1) (s := false) _).mono ?_); rintro e xw ⟨X5, Y5, rfl, hs5, ht5, ⟨x5, rfl⟩⟩; have HS5 := Lib.hid hs5; have HT5 := Lib.hid ht5; clear hs5 ht5))
  have HLgA : Lg ((plus (plus (plus w x1) x2) x4).alloc (.cells #[.int .i64 0, .int .i64 2, .bool true, .bool true, .int .i64 0, .int .i64 0, .int .i64 1, .slice none 0 0, .slice X1 1 1, .slice none 0 0, .int .i64 0, .int .i64 2, .bool true, .bool true, .int .i64 0, .int .i64 0, .int .i64 1, .slice none 0 0, .slice X2 1 1, .slice none 0 0, .int .i64 1, .int .i64 1, .bool true, .bool true, .int .i64 0, .int .i64 0, .int .i64 1, .slice X4 1 1, .slice none 0 0, .slice Y4 1 1] 42)) aL [] (some ⟨w.heap.size + x1.blocks.length + x2.blocks.length + x4.blocks.length, 0, none⟩) 3 3 none 0 0 := ⟨⟨[⟨stE 0 1 true, none, 0, X1, 1, none, 0⟩, ⟨stE 0 2 true, none, 0, X2, 1, none, 0⟩, ⟨ldE 1 1 0 true, X4, 1, none, 0, Y4, 1⟩], rfl, es_new rfl (by simp [go_sem]) (fun y hy => by
    simp only [List.mem_cons, List.not_mem_nil, or_false] at hy
    rcases hy with rfl | rfl | rfl
    · exact ⟨Ar.nil _ _ (Nat.zero_le _) _, HS1.out.plus (by repeat' (first | exact Plus.refl _ | refine Plus.alloc ?_ _ | refine Plus.plus ?_ _ | refine Plus.drew ?_ | refine Plus.drewN ?_ _)), Ar.nil _ _ (Nat.zero_le _) _, by_one rfl, by_one rfl⟩
    · exact ⟨Ar.nil _ _ (Nat.zero_le _) _, HS2.out.plus (by repeat' (first | exact Plus.refl _ | refine Plus.alloc ?_ _ | refine Plus.plus ?_ _ | refine Plus.drew ?_ | refine Plus.drewN ?_ _)), Ar.nil _ _ (Nat.zero_le _) _, by_one rfl, by_one rfl⟩
    · exact ⟨HS4.out.plus (by repeat' (first | exact Plus.refl _ | refine Plus.alloc ?_ _ | refine Plus.plus ?_ _ | refine Plus.drew ?_ | refine Plus.drewN ?_ _)), Ar.nil _ _ (Nat.zero_le _) _, HT4.out.plus (by repeat' (first | exact Plus.refl _ | refine Plus.alloc ?_ _ | refine Plus.plus ?_ _ | refine Plus.drew ?_ | refine Plus.drewN ?_ _)), by_one rfl, by_one rfl⟩) rfl (by omega)⟩, Pa.nil _ 0 (by omega) none⟩
  have HLgB : Lg ((plus (plus (((plus (plus (plus w x1) x2) x4).alloc (.cells #[.int .i64 0, .int .i64 2, .bool true, .bool true, .int .i64 0, .int .i64 0, .int .i64 1, .slice none 0 0, .slice X1 1 1, .slice none 0 0, .int .i64 0, .int .i64 2, .bool true, .bool true, .int .i64 0, .int .i64 0, .int .i64 1, .slice none 0 0, .slice X2 1 1, .slice none 0 0, .int .i64 1, .int .i64 1, .bool true, .bool true, .int .i64 0, .int .i64 0, .int .i64 1, .slice X4 1 1, .slice none 0 0, .slice Y4 1 1] 42)).alloc (.cells #[.slice (some ⟨w.heap.size + x1.blocks.length + x2.blocks.length + x4.blocks.length, 0, none⟩) 3 3, .slice none 0 0] 25)) x3) x5).alloc (.cells #[.int .i64 0, .int .i64 2, .bool false, .bool true, .int .i64 0, .int .i64 0, .int .i64 1, .slice none 0 0, .slice X3 1 1, .slice none 0 0, .int .i64 0, .int .i64 1, .bool false, .bool true, .int .i64 0, .int .i64 0, .int .i64 1, .slice X5 1 1, .slice none 0 0, .slice Y5 1 1] 42)) bL [] (some ⟨w.heap.size + x1.blocks.length + x2.blocks.length + x4.blocks.length + 1 + 1 + x3.blocks.length + x5.blocks.length, 0, none⟩) 2 2 none 0 0 := ⟨⟨[⟨stE 0 1 false, none, 0, X3, 1, none, 0⟩, ⟨ldE 0 0 (-1) false, X5, 1, none, 0, Y5, 1⟩], rfl, es_new rfl (by simp [go_sem]) (fun y hy => by
    simp only [List.mem_cons, List.not_mem_nil, or_false] at hy
    rcases hy with rfl | rfl
    · exact ⟨Ar.nil _ _ (Nat.zero_le _) _, HS3.out.plus (by repeat' (first | exact Plus.refl _ | refine Plus.alloc ?_ _ | refine Plus.plus ?_ _ | refine Plus.drew ?_ | refine Plus.drewN ?_ _)), Ar.nil _ _ (Nat.zero_le _) _, by_one rfl, by_one rfl⟩
    · exact ⟨HS5.out.plus (by repeat' (first | exact Plus.refl _ | refine Plus.alloc ?_ _ | refine Plus.plus ?_ _ | refine Plus.drew ?_ | refine Plus.drewN ?_ _)), Ar.nil _ _ (Nat.zero_le _) _, HT5.out.plus (by repeat' (first | exact Plus.refl _ | refine Plus.alloc ?_ _ | refine Plus.plus ?_ _ | refine Plus.drew ?_ | refine Plus.drewN ?_ _)), by_one rfl, by_one rfl⟩) rfl (by omega)⟩, Pa.nil _ 0 (by omega) none⟩
  have hXA : Bx (((plus (plus (plus w x1) x2) x4).alloc (.cells #[.int .i64 0, .int .i64 2, .bool true, .bool true, .int .i64 0, .int .i64 0, .int .i64 1, .slice none 0 0, .slice X1 1 1, .slice none 0 0, .int .i64 0, .int .i64 2, .bool true, .bool true, .int .i64 0, .int .i64 0, .int .i64 1, .slice none 0 0, .slice X2 1 1, .slice none 0 0, .int .i64 1, .int .i64 1, .bool true, .bool true, .int .i64 0, .int .i64 0, .int .i64 1, .slice X4 1 1, .slice none 0 0, .slice Y4 1 1] 42)).alloc (.cells #[.slice (some ⟨w.heap.size + x1.blocks.length + x2.blocks.length + x4.blocks.length, 0, none⟩) 3 3, .slice none 0 0] 25)) (w.heap.size + x1.blocks.length + x2.blocks.length + x4.blocks.length + 1) (.slice (some ⟨w.heap.size + x1.blocks.length + x2.blocks.length + x4.blocks.length, 0, none⟩) 3 3) (.slice none 0 0) := bx_new' _ _ _ (by simp [go_sem])
  have hXB : Bx (((plus (plus (((plus (plus (plus w x1) x2) x4).alloc (.cells #[.int .i64 0, .int .i64 2, .bool true, .bool true, .int .i64 0, .int .i64 0, .int .i64 1, .slice none 0 0, .slice X1 1 1, .slice none 0 0, .int .i64 0, .int .i64 2, .bool true, .bool true, .int .i64 0, .int .i64 0, .int .i64 1, .slice none 0 0, .slice X2 1 1, .slice none 0 0, .int .i64 1, .int .i64 1, .bool true, .bool true, .int .i64 0, .int .i64 0, .int .i64 1, .slice X4 1 1, .slice none 0 0, .slice Y4 1 1] 42)).alloc (.cells #[.slice (some ⟨w.heap.size + x1.blocks.length + x2.blocks.length + x4.blocks.length, 0, none⟩) 3 3, .slice none 0 0] 25)) x3) x5).alloc (.cells #[.int .i64 0, .int .i64 2, .bool false, .bool true, .int .i64 0, .int .i64 0, .int .i64 1, .slice none 0 0, .slice X3 1 1, .slice none 0 0, .int .i64 0, .int .i64 1, .bool false, .bool true, .int .i64 0, .int .i64 0, .int .i64 1, .slice X5 1 1, .slice none 0 0, .slice Y5 1 1] 42)).alloc (.cells #[.slice (some ⟨w.heap.size + x1.blocks.length + x2.blocks.length + x4.blocks.length + 1 + 1 + x3.blocks.length + x5.blocks.length, 0, none⟩) 2 2, .slice none 0 0] 25)) (w.heap.size + x1.blocks.length + x2.blocks.length + x4.blocks.length + 1 + 1 + x3.blocks.length + x5.blocks.length + 1) (.slice (some ⟨w.heap.size + x1.blocks.length + x2.blocks.length + x4.blocks.length + 1 + 1 + x3.blocks.length + x5.blocks.length, 0, none⟩) 2 2) (.slice none 0 0) := bx_new' _ _ _ (by simp [go_sem])
  obtain ⟨W1, hW1⟩ : ∃ W1, (((plus (plus (((plus (plus (plus w x1) x2) x4).alloc (.cells #[.int .i64 0, .int .i64 2, .bool true, .bool true, .int .i64 0, .int .i64 0, .int .i64 1, .slice none 0 0, .slice X1 1 1, .slice none 0 0, .int .i64 0, .int .i64 2, .bool true, .bool true, .int .i64 0, .int .i64 0, .int .i64 1, .slice none 0 0, .slice X2 1 1, .slice none 0 0, .int .i64 1, .int .i64 1, .bool true, .bool true, .int .i64 0, .int .i64 0, .int .i64 1, .slice X4 1 1, .slice none 0 0, .slice Y4 1 1] 42)).alloc (.cells #[.slice (some ⟨w.heap.size + x1.blocks.length + x2.blocks.length + x4.blocks.length, 0, none⟩) 3 3, .slice none 0 0] 25)) x3) x5).alloc (.cells #[.int .i64 0, .int .i64 2, .bool false, .bool true, .int .i64 0, .int .i64 0, .int .i64 1, .slice none 0 0, .slice X3 1 1, .slice none 0 0, .int .i64 0, .int .i64 1, .bool false, .bool true, .int .i64 0, .int .i64 0, .int .i64 1, .slice X5 1 1, .slice none 0 0, .slice Y5 1 1] 42)).alloc (.cells #[.slice (some ⟨w.heap.size + x1.blocks.length + x2.blocks.length + x4.blocks.length + 1 + 1 + x3.blocks.length + x5.blocks.length, 0, none⟩) 2 2, .slice none 0 0] 25)) = W1 := ⟨_, rfl⟩
  have hP1 : Plus w W1 := by rw [← hW1]; exact (by repeat' (first | exact Plus.refl _ | refine Plus.alloc ?_ _ | refine Plus.plus ?_ _ | refine Plus.drew ?_ | refine Plus.drewN ?_ _))
  have HA := Lib.hid (show Lg W1 aL [] (some ⟨w.heap.size + x1.blocks.length + x2.blocks.length + x4.blocks.length, 0, none⟩) 3 3 none 0 0 by rw [← hW1]; exact HLgA.plus (by repeat' (first | exact Plus.refl _ | refine Plus.alloc ?_ _ | refine Plus.plus ?_ _ | refine Plus.drew ?_ | refine Plus.drewN ?_ _)))
  have HB := Lib.hid (show Lg W1 bL [] (some ⟨w.heap.size + x1.blocks.length + x2.blocks.length + x4.blocks.length + 1 + 1 + x3.blocks.length + x5.blocks.length, 0, none⟩) 2 2 none 0 0 by rw [← hW1]; exact HLgB.plus (by repeat' (first | exact Plus.refl _ | refine Plus.alloc ?_ _ | refine Plus.plus ?_ _ | refine Plus.drew ?_ | refine Plus.drewN ?_ _)))
  have hXA1 : Bx W1 (w.heap.size + x1.blocks.length + x2.blocks.length + x4.blocks.length + 1) (.slice (some ⟨w.heap.size + x1.blocks.length + x2.blocks.length + x4.blocks.length, 0, none⟩) 3 3) (.slice none 0 0) := by rw [← hW1]; exact hXA.plus (by repeat' (first | exact Plus.refl _ | refine Plus.alloc ?_ _ | refine Plus.plus ?_ _ | refine Plus.drew ?_ | refine Plus.drewN ?_ _))
  rw [hW1] at hXB
  rw [hW1]
  clear HLgA HLgB hXA hW1 HS1 HS2 HS3 HS4 HS5 HT4 HT5
  obtain ⟨gB, hgB⟩ : ∃ g, w.heap.size + x1.blocks.length + x2.blocks.length + x4.blocks.length + 1 + 1 + x3.blocks.length + x5.blocks.length = g := ⟨_, rfl⟩
  rw [hgB] at HB hXB ⊢
  clear hgB
  obtain ⟨gA, hgA⟩ : ∃ g, w.heap.size + x1.blocks.length + x2.blocks.length + x4.blocks.length = g := ⟨_, rfl⟩
  rw [hgA] at HA hXA1 ⊢
  clear hgA
  have a0 := hXA1.c0
  have a1 := hXA1.c1
  have b0 := hXB.c0
  have b1 := hXB.c1
  haveI : Old (gA + 1) W1 := ⟨hXA1.lt⟩
  haveI : Old (gB + 1) W1 := ⟨hXB.lt⟩
  have HMA : Hid (MayR aL [] true) := Lib.hid ⟨fun _ => rfl, fun _ => a_may⟩
  have HMB : Hid (MayR bL [] true) := Lib.hid ⟨fun _ => rfl, fun _ => b_may⟩
  have HME : Hid (MayR [] [] true) := Lib.hid ⟨fun _ => rfl, fun _ => e_may⟩
  have HPA := Lib.hid a_may
  have HPB := Lib.hid b_may
  have HPE := Lib.hid e_may
  have HL1 := Lib.hid (HLA.out.plus hP1)



  have HAT := Lib.hid a_ato
  have HAC := Lib.hid a_coh
  have HAV := Lib.hid a_vld
  have HBC := Lib.hid b_coh
  have HBT := Lib.hid b_tea
  have HEV := Lib.hid e_vld
  have HEO := Lib.hid (Ar.nil (k := .i64) W1 0 (Nat.zero_le _) none)
  have HEL : Hid (Lg W1 [] [] none 0 0 none 0 0) := Lib.hid ⟨⟨[], rfl, Es.nil _ 0 (by omega) none⟩, Pa.nil _ 0 (by omega) none⟩
  have HORD : Hid (OrdP 3 (befB aL []) (natL 3)) := Lib.hid (natL_ord a_may)
  clear hXA1 hXB
  go_region_held3 (fun w' => w'.cell? ⟨gA + 1, 0, none⟩ = some (.slice (some ⟨gA, 0, none⟩) 3 3) ∧ w'.cell? ⟨gA + 1, 1, none⟩ = some (.slice none 0 0) ∧ w'.cell? ⟨gB + 1, 0, none⟩ = some (.slice (some ⟨gB, 0, none⟩) 2 2) ∧ w'.cell? ⟨gB + 1, 1, none⟩ = some (.slice none 0 0)) (refine ⟨?_, ?_, ?_, ?_⟩ <;> simp [go_sem, a0, a1, b0, b1]) (first | (go_at_call 36; (with_reducible refine (natural_t _ (HA.out.plus (by repeat' (first | exact Plus.refl _ | refine Plus.alloc ?_ _ | refine Plus.plus ?_ _ | refine Plus.drew ?_ | refine Plus.drewN ?_ _))) HMA (by omega)).mono ?_); rintro e xw ⟨D, cD, rfl, hN1, ⟨z1, rfl⟩⟩; first | (have HN1 := Lib.hid (ar_undrew hN1); clear hN1) | (have HN1 := Lib.hid hN1; clear hN1)) | (go_at_call 31; (with_reducible refine (atomic_t _ (HL1.out.plus (by repeat' (first | exact Plus.refl _ | refine Plus.alloc ?_ _ | refine Plus.plus ?_ _ | refine Plus.drew ?_ | refine Plus.drewN ?_ _))) (HA.out.plus (by repeat' (first | exact Plus.refl _ | refine Plus.alloc ?_ _ | refine Plus.plus ?_ _ | refine Plus.drew ?_ | refine Plus.drewN ?_ _))) HMA HPA (Lib.hid (rfl : 1 = (3 + 63) / 64)) (HN1.out.plus (by repeat' (first | exact Plus.refl _ | refine Plus.alloc ?_ _ | refine Plus.plus ?_ _ | refine Plus.drew ?_ | refine Plus.drewN ?_ _))) HORD HAT).mono ?_); rintro e xw ⟨rfl, ⟨z2, rfl⟩⟩) | (go_at_call_of 25 (Value.agg #[.slice (some ⟨gA, 0, none⟩) 3 3, .slice none 0 0]); (with_reducible refine (coherent_t _ (HL1.out.plus (by repeat' (first | exact Plus.refl _ | refine Plus.alloc ?_ _ | refine Plus.plus ?_ _ | refine Plus.drew ?_ | refine Plus.drewN ?_ _))) (HA.out.plus (by repeat' (first | exact Plus.refl _ | refine Plus.alloc ?_ _ | refine Plus.plus ?_ _ | refine Plus.drew ?_ | refine Plus.drewN ?_ _))) HMA HPA (Lib.hid (rfl : 1 = (3 + 63) / 64)) HAC).mono ?_); rintro e xw ⟨rfl, ⟨z3, rfl⟩⟩) | (go_at_call_of 33 (Value.agg #[.slice (some ⟨gA, 0, none⟩) 3 3, .slice none 0 0]); (with_reducible refine (valid_t _ (HL1.out.plus (by repeat' (first | exact Plus.refl _ | refine Plus.alloc ?_ _ | refine Plus.plus ?_ _ | refine Plus.drew ?_ | refine Plus.drewN ?_ _))) (HA.out.plus (by repeat' (first | exact Plus.refl _ | refine Plus.alloc ?_ _ | refine Plus.plus ?_ _ | refine Plus.drew ?_ | refine Plus.drewN ?_ _))) HMA HPA (Lib.hid (rfl : 1 = (3 + 63) / 64)) (HN1.out.plus (by repeat' (first | exact Plus.refl _ | refine Plus.alloc ?_ _ | refine Plus.plus ?_ _ | refine Plus.drew ?_ | refine Plus.drewN ?_ _))) HAV).mono ?_); rintro e xw ⟨rfl, ⟨z4, rfl⟩⟩) | (go_at_call_of 25 (Value.agg #[.slice (some ⟨gB, 0, none⟩) 2 2, .slice none 0 0]); (with_reducible refine (coherent_t _ (HL1.out.plus (by repeat' (first | exact Plus.refl _ | refine Plus.alloc ?_ _ | refine Plus.plus ?_ _ | refine Plus.drew ?_ | refine Plus.drewN ?_ _))) (HB.out.plus (by repeat' (first | exact Plus.refl _ | refine Plus.alloc ?_ _ | refine Plus.plus ?_ _ | refine Plus.drew ?_ | refine Plus.drewN ?_ _))) HMB HPB (Lib.hid (rfl : 1 = (2 + 63) / 64)) HBC).mono ?_); rintro e xw ⟨rfl, ⟨z5, rfl⟩⟩) | (go_at_call 27; (with_reducible refine (tear_t _ (HB.out.plus (by repeat' (first | exact Plus.refl _ | refine Plus.alloc ?_ _ | refine Plus.plus ?_ _ | refine Plus.drew ?_ | refine Plus.drewN ?_ _))) HMB HPB HBT).mono ?_); rintro e xw ⟨rfl, ⟨z6, rfl⟩⟩) | (go_at_call 33; (with_reducible refine (valid_t _ (HL1.out.plus (by repeat' (first | exact Plus.refl _ | refine Plus.alloc ?_ _ | refine Plus.plus ?_ _ | refine Plus.drew ?_ | refine Plus.drewN ?_ _))) (HEL.out.plus (by repeat' (first | exact Plus.refl _ | refine Plus.alloc ?_ _ | refine Plus.plus ?_ _ | refine Plus.drew ?_ | refine Plus.drewN ?_ _))) HME HPE (Lib.hid (rfl : 0 = (0 + 63) / 64)) (HEO.out.plus (by repeat' (first | exact Plus.refl _ | refine Plus.alloc ?_ _ | refine Plus.plus ?_ _ | refine Plus.drew ?_ | refine Plus.drewN ?_ _))) HEV).mono ?_); rintro e xw ⟨rfl, ⟨z7, rfl⟩⟩))
  all_goals go_wp2_with fail
  all_goals go_returns
  all_goals exact ⟨rfl, hP1.trans (by repeat' (first | exact Plus.refl _ | refine Plus.alloc ?_ _ | refine Plus.plus ?_ _ | refine Plus.drew ?_ | refine Plus.drewN ?_ _))⟩
end Go.Proofs.YtmfdlcicbiincaaDoor
