/- The walk of LexRemarks, where it ends early. -/
import Derived.Deep.QuietTactic
import Derived.BigQuiet
import Derived.IntWalk
import Derived.Test.YtaigkjffglbknaaDoorQ4
import Derived.Test.YtaigkjffglbknaaDoorB5
namespace Go.Proofs.YtaigkjffglbknaaDoor
open Go.RowKit


theorem own_lit3 (w : World) (g : Nat) (hg : g = w.heap.size) : (w.alloc (.cells #[.int .u16 32, .int .u16 47, .int .u16 42] 40)).ownsRow w.heap.size 40 1 (.slice (some ⟨g, 0, none⟩) 3 3) ([32, 47, 42] : List Nat).length (vals .u16 [32, 47, 42]) := by
  subst hg
  exact ⟨by rfl, .inr ⟨_, 3, _, rfl, Nat.le_refl _, heap_alloc_new w _, by simp, by unfold maxLen; omega, rfl, rfl⟩⟩
theorem rd_lit2 (W : World) (g : Nat) (hg : g = W.heap.size) (t : TypeId) : Rd .u16 (W.alloc (.cells #[.int .u16 42, .int .u16 47] t)) (some ⟨g, 0, none⟩) [42, 47] := by
  subst hg
  refine fun _ => ⟨_, _, rfl, by simp, fun j hj => ?_⟩
  have : j = 0 ∨ j = 1 := by simp at hj; omega
  rcases this with rfl | rfl
  · rw [World.cell?_alloc_at _ _ _ _ rfl]; rfl
  · rw [World.cell?_alloc_at _ _ _ _ rfl]; rfl
theorem own_cat {w : World} {B : Nat} {v : Value} {xs ys : List Nat} (h : w.ownsRow B 40 1 v (xs.length + ys.length) (vals .u16 xs ++ vals .u16 ys)) : w.ownsRow B 40 1 v (xs ++ ys).length (vals .u16 (xs ++ ys)) := by
  rw [vals_app .u16 xs ys, List.length_append]
  exact h
theorem any_next {p : Nat → Bool} {xs : List Nat} {k : Nat} (hk : k < xs.length) : (xs.take (k + 1)).any p = ((xs.take k).any p || p (xs.getD k 0)) := by
  have e : xs.getD k 0 = xs[k] := by rw [List.getD_eq_getElem?_getD, List.getElem?_eq_getElem hk]; rfl
  rw [List.take_succ_eq_append_getElem hk, List.any_append, e]
  simp
def inB (x : Nat) : Bool := x == 42 || x == 8232 || x == 8233
def InRel (xs : List Nat) (s7 s8 : Value) : Prop := ∃ k : Nat, k ≤ xs.length ∧ s8 = .int .i64 k ∧ s7 = .bool ((xs.take k).any isEnd) ∧ (xs.take k).any inB = false
/-- Do two strokes stand among the first k units, and the one behind each? -/
def opK (xs : List Nat) : Nat → Bool
  | 0 => false
  | k + 1 => opK xs k || (uAt xs k == 47 && uAt xs (k + 1) == 47)
def OpRel (xs : List Nat) (s20 s21 : Value) : Prop := ∃ k : Nat, (k = 0 ∨ k < xs.length) ∧ s21 = .int .i64 k ∧ s20 = .bool (opK xs k)
def TkR (M : Nat) (s22 : Value) : Prop := ∃ k : Nat, k ≤ M ∧ s22 = .int .i64 k

theorem lt_plus {W W' : World} {g : Nat} (h : g < W.heap.size) (hp : Plus W W') : g < W'.heap.size := Nat.lt_of_lt_of_le h hp.below.size
theorem ht_plus {W W' : World} {rs : List TR} (h : Hid (∀ r ∈ rs, TRM W r)) (hp : Plus W W') : Hid (∀ r ∈ rs, TRM W' r) := Lib.hid fun r hr => TkM.plus (h.out r hr) hp
theorem bd_of (xs : List Nat) (h : xs.length ≤ 2000) : (∀ t ∈ (tokM xs).l, t.a ≤ xs.length) ∧ (tokM xs).a ≤ xs.length ∧ (tokM xs).l.length ≤ xs.length + 1 ∧ ((tokM xs).e = 0 → (tokM xs).a = 0 ∧ 0 < (tokM xs).l.length) ∧ ((tokM xs).e ≠ 0 → (tokM xs).l = []) := by
  have e1 : tokM xs = runM xs 0 false [] xs.length := by unfold tokM; rw [if_neg (by omega)]
  obtain ⟨b1, b2, b3⟩ := run_bd xs xs.length 0 false [] (Nat.zero_le _) (fun t ht => by simp at ht)
  rw [e1]
  exact ⟨b1, b2, by simpa using b3, fun h => ⟨run_ok _ _ _ _ _ h, run_ne _ _ _ _ _ h⟩, run_no _ _ _ _ _⟩
set_option maxRecDepth 100000 in
set_option maxHeartbeats 64000000 in
theorem rem_fn (A1 A2 A3 : Option Addr) (n c m d q b : Nat) (w : World) (HL : Hid (Lai w)) (dn : decide ((1000 : Int) < (n : Int)) = true) : Calls Tryd.prog 10 #[.slice A1 n c, .slice A2 m d, .slice A3 q b] w fun e w' => e = .returned (.bool true) ∧ Plus w w' := by
  go_enter Tryd.func10, Tryd.ntmps10
  go_wp2_with (first | (go_at_call 11; (with_reducible refine (first_c _ (Lib.hid (HL.out.plus (by repeat' (first | exact Plus.refl _ | refine Plus.alloc ?_ _ | refine Plus.plus ?_ _ | refine Plus.drew ?_ | refine Plus.drewN ?_ _))))).mono ?_); rintro e w1 ⟨rfl, ⟨y0, rfl⟩⟩))
  go_ret
  exact ⟨rfl, (by repeat' (first | exact Plus.refl _ | refine Plus.alloc ?_ _ | refine Plus.plus ?_ _ | refine Plus.drew ?_ | refine Plus.drewN ?_ _))⟩
set_option maxRecDepth 100000 in
set_option maxHeartbeats 64000000 in
theorem rem_fm (A1 A2 A3 : Option Addr) (n c m d q b : Nat) (w : World) (HL : Hid (Lai w)) (dn : decide ((1000 : Int) < (n : Int)) = false) (dm : decide ((1000 : Int) < (m : Int)) = true) : Calls Tryd.prog 10 #[.slice A1 n c, .slice A2 m d, .slice A3 q b] w fun e w' => e = .returned (.bool true) ∧ Plus w w' := by
  go_enter Tryd.func10, Tryd.ntmps10
  go_wp2_with (first | (go_at_call 11; (with_reducible refine (first_c _ (Lib.hid (HL.out.plus (by repeat' (first | exact Plus.refl _ | refine Plus.alloc ?_ _ | refine Plus.plus ?_ _ | refine Plus.drew ?_ | refine Plus.drewN ?_ _))))).mono ?_); rintro e w1 ⟨rfl, ⟨y0, rfl⟩⟩))
  go_ret
  exact ⟨rfl, (by repeat' (first | exact Plus.refl _ | refine Plus.alloc ?_ _ | refine Plus.plus ?_ _ | refine Plus.drew ?_ | refine Plus.drewN ?_ _))⟩
set_option maxRecDepth 100000 in
set_option maxHeartbeats 64000000 in
theorem rem_fq (A1 A2 A3 : Option Addr) (n c m d q b : Nat) (w : World) (HL : Hid (Lai w)) (dn : decide ((1000 : Int) < (n : Int)) = false) (dm : decide ((1000 : Int) < (m : Int)) = false) (dq : decide ((1000 : Int) < (q : Int)) = true) : Calls Tryd.prog 10 #[.slice A1 n c, .slice A2 m d, .slice A3 q b] w fun e w' => e = .returned (.bool true) ∧ Plus w w' := by
  go_enter Tryd.func10, Tryd.ntmps10
  go_wp2_with (first | (go_at_call 11; (with_reducible refine (first_c _ (Lib.hid (HL.out.plus (by repeat' (first | exact Plus.refl _ | refine Plus.alloc ?_ _ | refine Plus.plus ?_ _ | refine Plus.drew ?_ | refine Plus.drewN ?_ _))))).mono ?_); rintro e w1 ⟨rfl, ⟨y0, rfl⟩⟩))
  go_ret
  exact ⟨rfl, (by repeat' (first | exact Plus.refl _ | refine Plus.alloc ?_ _ | refine Plus.plus ?_ _ | refine Plus.drew ?_ | refine Plus.drewN ?_ _))⟩
set_option maxRecDepth 100000 in
set_option maxHeartbeats 64000000 in
theorem rem_bad (A1 A2 A3 : Option Addr) (xs ys zs : List Nat) (n c m d q b : Nat) (w : World) (HL : Hid (Lai w)) (ha : Hid (Ar .u16 65536 w A1 xs n c)) (hb : Hid (Ar .u16 65536 w A2 ys m d)) (hc : Hid (Ar .u16 65536 w A3 zs q b)) (hn : n ≤ 1000) (hm : m ≤ 1000) (hq : q ≤ 1000) (dn : decide ((1000 : Int) < (n : Int)) = false) (dm : decide ((1000 : Int) < (m : Int)) = false) (dq : decide ((1000 : Int) < (q : Int)) = false) (HG : Hid (zs.any inB = true)) : Calls Tryd.prog 10 #[.slice A1 n c, .slice A2 m d, .slice A3 q b] w fun e w' => e = .returned (.bool true) ∧ Plus w w' := by
  obtain ⟨i0, hi, hz0, hz1, hz2⟩ := info_parts infoU16
  have hlen := Lib.hid ha.out.len
  have hlen2 := Lib.hid hb.out.len
  have hlen3 := Lib.hid hc.out.len
  have hxl : xs.length ≤ 1000 := by have := ha.out.len; omega
  have hyl : ys.length ≤ 1000 := by have := hb.out.len; omega
  have hzl : zs.length ≤ 1000 := by have := hc.out.len; omega
  go_enter Tryd.func10, Tryd.ntmps10
  go_wp2_with (go_at_call 11; (with_reducible refine (first_c _ (Lib.hid (HL.out.plus (by repeat' (first | exact Plus.refl _ | refine Plus.alloc ?_ _ | refine Plus.plus ?_ _ | refine Plus.drew ?_ | refine Plus.drewN ?_ _))))).mono ?_); rintro e w1 ⟨rfl, ⟨y0, rfl⟩⟩)
  go_loop [7, 8] (fun s7 s8 => InRel zs s7 s8) (fun _ s8 => ((q : Int) - intOf s8).toNat)
  case atStart => exact ⟨0, by omega, rfl, rfl, rfl⟩
  case round =>
    obtain ⟨k, hk, rfl, rfl, hbd⟩ := hrel
    have HBD := Lib.hid hbd
    clear hbd
    obtain ⟨bb, hbb⟩ : ∃ bb, (zs.take k).any isEnd = bb := ⟨_, rfl⟩
    have HBB := Lib.hid hbb
    rw [hbb]
    clear hbb
    by_cases hlt : k < q
    · have hlt' : k < zs.length := by have := hlen3.out; omega
      obtain ⟨g, o, rfl, hg, hat⟩ := hc.out.rd.at_ hlt'
      have hcell := hat k hlt'
      have hadd := add_addr g o k
      have I0 : Old g w := ⟨hg⟩
      obtain ⟨x, hx⟩ : ∃ x, zs.getD k 0 = x := ⟨_, rfl⟩
      have HNX := Lib.hid (any_next (p := isEnd) hlt')
      have HNB := Lib.hid (any_next (p := inB) hlt')
      rw [hx] at hcell
      have HX := Lib.hid hx
      have HAT := Lib.hid hat
      clear hat hx
      by_cases hgx : inB x = true
      · have hcs : ((x : Int) == 42) = true ∨ ((x : Int) == 42) = false ∧ ((x : Int) == 8232) = true ∨ ((x : Int) == 42) = false ∧ ((x : Int) == 8232) = false ∧ ((x : Int) == 8233) = true := by
          simp [inB] at hgx
          simp
          omega
        clear hgx
        rcases hcs with t1 | ⟨t1, t2⟩ | ⟨t1, t2, t3⟩
        all_goals
          go_wp2_with (first | (go_at_call 11; (with_reducible refine (first_c _ (Lib.hid (HL.out.plus (by repeat' (first | exact Plus.refl _ | refine Plus.alloc ?_ _ | refine Plus.plus ?_ _ | refine Plus.drew ?_ | refine Plus.drewN ?_ _))))).mono ?_); rintro e w1 ⟨rfl, ⟨y5, rfl⟩⟩))
          go_ret
          exact ⟨rfl, (by repeat' (first | exact Plus.refl _ | refine Plus.alloc ?_ _ | refine Plus.plus ?_ _ | refine Plus.drew ?_ | refine Plus.drewN ?_ _))⟩
      replace hgx : inB x = false := by simpa using hgx
      have HGX := Lib.hid hgx
      have t1 : ((x : Int) == 42) = false := by simp [inB] at hgx; simp; omega
      have t2 : ((x : Int) == 8232) = false := by simp [inB] at hgx; simp; omega
      have t3 : ((x : Int) == 8233) = false := by simp [inB] at hgx; simp; omega
      clear hgx
      have HN2 : Hid ((zs.take (k + 1)).any inB = false) := Lib.hid (by rw [HNB.out, HBD.out, HX.out, HGX.out]; rfl)
      cases bb
      · have hcs : ((x : Int) == 10) = true ∧ isEnd x = true ∨ ((x : Int) == 10) = false ∧ ((x : Int) == 13) = true ∧ isEnd x = true ∨ ((x : Int) == 10) = false ∧ ((x : Int) == 13) = false ∧ isEnd x = false := by
          unfold isEnd
          simp
          omega
        rcases hcs with ⟨t4, p⟩ | ⟨t4, t5, p⟩ | ⟨t4, t5, p⟩
        all_goals
          have HN := Lib.hid (HNX.out.trans (by rw [HBB.out, HX.out, p]))
          clear p
          go_wp2_with fail
          go_round
          case rel => exact ⟨k + 1, hlt', by rw [show ((k + 1 : Nat) : Int) = (k : Int) + 1 by omega], by rw [HN.out]; rfl, HN2.out⟩
          case measure => simp [intOf]; omega
      · have HN : Hid ((zs.take (k + 1)).any isEnd = true) := Lib.hid (by rw [HNX.out, HBB.out]; rfl)
        go_wp2_with fail
        go_round
        case rel => exact ⟨k + 1, hlt', by rw [show ((k + 1 : Nat) : Int) = (k : Int) + 1 by omega], by rw [HN.out], HN2.out⟩
        case measure => simp [intOf]; omega
    · obtain rfl : k = q := by have := hlen3.out; omega
      exfalso
      have h1 := HBD.out
      rw [hlen3.out, List.take_length, HG.out] at h1
      cases h1
set_option maxRecDepth 100000 in
set_option maxHeartbeats 64000000 in
theorem rem_euf (A1 A2 A3 : Option Addr) (xs ys zs : List Nat) (n c m d q b : Nat) (w : World) (HL : Hid (Lai w)) (ha : Hid (Ar .u16 65536 w A1 xs n c)) (hb : Hid (Ar .u16 65536 w A2 ys m d)) (hc : Hid (Ar .u16 65536 w A3 zs q b)) (hn : n ≤ 1000) (hm : m ≤ 1000) (hq : q ≤ 1000) (dn : decide ((1000 : Int) < (n : Int)) = false) (dm : decide ((1000 : Int) < (m : Int)) = false) (dq : decide ((1000 : Int) < (q : Int)) = false) (HG : Hid (zs.any inB = false)) (HE : Hid (zs.any isEnd = false)) (a er : Nat) (ze : Int) (He : Hid ((er : Int) = ze)) (he : (ze != 0) = true) (T1 : Hid (tokM xs = ⟨[], a, er⟩)) :
    Calls Tryd.prog 10 #[.slice A1 n c, .slice A2 m d, .slice A3 q b] w fun e w' => e = .returned (.bool true) ∧ Plus w w' := by
  obtain ⟨i0, hi, hz0, hz1, hz2⟩ := info_parts infoU16
  have hlen := Lib.hid ha.out.len
  have hlen2 := Lib.hid hb.out.len
  have hlen3 := Lib.hid hc.out.len
  have hxl : xs.length ≤ 1000 := by have := ha.out.len; omega
  have hyl : ys.length ≤ 1000 := by have := hb.out.len; omega
  have hzl : zs.length ≤ 1000 := by have := hc.out.len; omega
  go_enter Tryd.func10, Tryd.ntmps10
  go_wp2_with (go_at_call 11; (with_reducible refine (first_c _ (Lib.hid (HL.out.plus (by repeat' (first | exact Plus.refl _ | refine Plus.alloc ?_ _ | refine Plus.plus ?_ _ | refine Plus.drew ?_ | refine Plus.drewN ?_ _))))).mono ?_); rintro e w1 ⟨rfl, ⟨y0, rfl⟩⟩)
  go_loop [7, 8] (fun s7 s8 => InRel zs s7 s8) (fun _ s8 => ((q : Int) - intOf s8).toNat)
  case atStart => exact ⟨0, by omega, rfl, rfl, rfl⟩
  case round =>
    obtain ⟨k, hk, rfl, rfl, hbd⟩ := hrel
    have HBD := Lib.hid hbd
    clear hbd
    obtain ⟨bb, hbb⟩ : ∃ bb, (zs.take k).any isEnd = bb := ⟨_, rfl⟩
    have HBB := Lib.hid hbb
    rw [hbb]
    clear hbb
    by_cases hlt : k < q
    · have hlt' : k < zs.length := by have := hlen3.out; omega
      obtain ⟨g, o, rfl, hg, hat⟩ := hc.out.rd.at_ hlt'
      have hcell := hat k hlt'
      have hadd := add_addr g o k
      have I0 : Old g w := ⟨hg⟩
      obtain ⟨x, hx⟩ : ∃ x, zs.getD k 0 = x := ⟨_, rfl⟩
      have HNX := Lib.hid (any_next (p := isEnd) hlt')
      have HNB := Lib.hid (any_next (p := inB) hlt')
      rw [hx] at hcell
      have HX := Lib.hid hx
      have HAT := Lib.hid hat
      clear hat hx
      have hgx : inB x = false := by
        have h := List.any_eq_false.1 HG.out x (by rw [← HX.out]; exact getD_mem hlt')
        simpa using h
      have HGX := Lib.hid hgx
      have t1 : ((x : Int) == 42) = false := by simp [inB] at hgx; simp; omega
      have t2 : ((x : Int) == 8232) = false := by simp [inB] at hgx; simp; omega
      have t3 : ((x : Int) == 8233) = false := by simp [inB] at hgx; simp; omega
      clear hgx
      have HN2 : Hid ((zs.take (k + 1)).any inB = false) := Lib.hid (by rw [HNB.out, HBD.out, HX.out, HGX.out]; rfl)
      cases bb
      · have hcs : ((x : Int) == 10) = true ∧ isEnd x = true ∨ ((x : Int) == 10) = false ∧ ((x : Int) == 13) = true ∧ isEnd x = true ∨ ((x : Int) == 10) = false ∧ ((x : Int) == 13) = false ∧ isEnd x = false := by
          unfold isEnd
          simp
          omega
        rcases hcs with ⟨t4, p⟩ | ⟨t4, t5, p⟩ | ⟨t4, t5, p⟩
        all_goals
          have HN := Lib.hid (HNX.out.trans (by rw [HBB.out, HX.out, p]))
          clear p
          go_wp2_with fail
          go_round
          case rel => exact ⟨k + 1, hlt', by rw [show ((k + 1 : Nat) : Int) = (k : Int) + 1 by omega], by rw [HN.out]; rfl, HN2.out⟩
          case measure => simp [intOf]; omega
      · have HN : Hid ((zs.take (k + 1)).any isEnd = true) := Lib.hid (by rw [HNX.out, HBB.out]; rfl)
        go_wp2_with fail
        go_round
        case rel => exact ⟨k + 1, hlt', by rw [show ((k + 1 : Nat) : Int) = (k : Int) + 1 by omega], by rw [HN.out], HN2.out⟩
        case measure => simp [intOf]; omega
    · obtain rfl : k = q := by have := hlen3.out; omega
      obtain rfl : bb = false := by
        have := HBB.out
        rw [hlen3.out, List.take_length, HE.out] at this
        exact this.symm
      have NBT : Hid (Ar .u16 65536 ((plus w y0).alloc (.cells #[.int .u16 32] 40)) (some ⟨w.heap.size + y0.blocks.length, 0, none⟩) [32] 1 1) := Lib.hid (ar_lit (plus w y0) 32 32 (by omega) (by decide) _ (by simp [go_sem]) 40)
      go_wp2_with (first | (at_builtin; refine wpList_append_rd (by rfl) _ _ 25 rfl ((plus w y0).alloc (.cells #[.int .u16 32] 40)).heap.size 40 i0 (.int .u16 0) 2 .u16 Tryd.underlying25 hi hz0 hz1 hz2 (by decide) _ ([32, 47, 42] ++ zs) [42, 47] rfl (own_alloc HO1.out _) _ _ _ rfl rfl (rd_lit2 (plus ((plus w y0).alloc (.cells #[.int .u16 32] 40)) z1) _ (by simp [go_sem]) 40) (by (try simp); unfold maxLen; omega) (by (try simp); omega) (by simp [go_sem] <;> omega) ?_; intro v2 w2 hown2 hgr2; obtain ⟨z2, rfl⟩ := below_rd (own_alloc HO1.out _) (show Plus ((plus w y0).alloc (.cells #[.int .u16 32] 40)) _ from (by repeat' (first | exact Plus.refl _ | refine Plus.alloc ?_ _ | refine Plus.plus ?_ _ | refine Plus.drew ?_ | refine Plus.drewN ?_ _))) hgr2; have HO2 : Hid ((plus ((plus w y0).alloc (.cells #[.int .u16 32] 40)) z2).ownsRow ((plus w y0).alloc (.cells #[.int .u16 32] 40)).heap.size 40 1 v2 (([32, 47, 42] ++ zs) ++ [42, 47]).length (vals .u16 (([32, 47, 42] ++ zs) ++ [42, 47]))) := Lib.hid (own_cat hown2); clear hown2 hgr2) | (at_builtin; refine wpList_append_rd (by rfl) _ _ 25 rfl ((plus w y0).alloc (.cells #[.int .u16 32] 40)).heap.size 40 i0 (.int .u16 0) 2 .u16 Tryd.underlying25 hi hz0 hz1 hz2 (by decide) _ [32, 47, 42] zs rfl (own_lit3 ((plus w y0).alloc (.cells #[.int .u16 32] 40)) _ (by simp [go_sem])) _ _ _ rfl hlen3.out (hc.out.rd.plus (by repeat' (first | exact Plus.refl _ | refine Plus.alloc ?_ _ | refine Plus.plus ?_ _ | refine Plus.drew ?_ | refine Plus.drewN ?_ _))) (by (try simp); unfold maxLen; omega) (by (try simp); omega) (by simp [go_sem] <;> omega) ?_; intro v1 w1 hown1 hgr1; obtain ⟨z1, rfl⟩ := below_rd (own_lit3 ((plus w y0).alloc (.cells #[.int .u16 32] 40)) _ (by simp [go_sem])) (show Plus ((plus w y0).alloc (.cells #[.int .u16 32] 40)) _ from (by repeat' (first | exact Plus.refl _ | refine Plus.alloc ?_ _ | refine Plus.plus ?_ _ | refine Plus.drew ?_ | refine Plus.drewN ?_ _))) hgr1; have HO1 : Hid ((plus ((plus w y0).alloc (.cells #[.int .u16 32] 40)) z1).ownsRow ((plus w y0).alloc (.cells #[.int .u16 32] 40)).heap.size 40 1 v1 ([32, 47, 42] ++ zs).length (vals .u16 ([32, 47, 42] ++ zs))) := Lib.hid (own_cat hown1); clear hown1 hgr1))
      obtain ⟨C2, dd2, rfl, r1, r2, r3⟩ := rd_of_own HO2.out
      have hbx : ∀ x ∈ (([32, 47, 42] ++ zs) ++ [42, 47]), x < 65536 := fun x hx => by
        simp only [List.mem_append, List.mem_cons, List.not_mem_nil, or_false] at hx
        rcases hx with ((rfl | rfl | rfl) | h) | (rfl | rfl)
        · decide
        · decide
        · decide
        · exact hc.out.bd x h
        · decide
        · decide
      have NR : Hid (Ar .u16 65536 _ C2 (([32, 47, 42] ++ zs) ++ [42, 47]) ((([32, 47, 42] ++ zs) ++ [42, 47])).length dd2) := Lib.hid ⟨r3, rfl, r1, r2, hbx⟩
      clear r1 r2 r3 hbx
      obtain ⟨ql, hql⟩ : ∃ ql, ((([32, 47, 42] ++ zs) ++ [42, 47])).length = ql := ⟨_, rfl⟩
      have HQL := Lib.hid hql
      have hqb : ql ≤ 1005 := by rw [← hql]; simp; omega
      have hqa : 5 ≤ ql := by rw [← hql]; simp
      rw [hql] at NR ⊢
      clear hql HO2
      refine (tokR_c _ xs _ _ _ (ha.out.plus (by repeat' (first | exact Plus.refl _ | refine Plus.alloc ?_ _ | refine Plus.plus ?_ _ | refine Plus.drew ?_ | refine Plus.drewN ?_ _))) (by omega) (HL.out.plus (by repeat' (first | exact Plus.refl _ | refine Plus.alloc ?_ _ | refine Plus.plus ?_ _ | refine Plus.drew ?_ | refine Plus.drewN ?_ _)))).mono ?_
      rintro e w1 ⟨B1, d1, rs1, rfl, m1, k1, j1, R1, t1, ⟨y1, rfl⟩⟩
      rw [T1.out] at m1 ⊢
      dsimp only at m1 ⊢
      have M1 := Lib.hid m1
      have RR1 := Lib.hid R1
      have TT1 := Lib.hid t1
      clear m1 R1 t1
      rw [He.out]
      go_wp2_with (first | (go_at_call 11; (with_reducible refine (first_c _ (Lib.hid (HL.out.plus (by repeat' (first | exact Plus.refl _ | refine Plus.alloc ?_ _ | refine Plus.plus ?_ _ | refine Plus.drew ?_ | refine Plus.drewN ?_ _))))).mono ?_); rintro e w1 ⟨rfl, ⟨y5, rfl⟩⟩))
      go_ret
      exact ⟨rfl, (by repeat' (first | exact Plus.refl _ | refine Plus.alloc ?_ _ | refine Plus.plus ?_ _ | refine Plus.drew ?_ | refine Plus.drewN ?_ _))⟩
set_option maxRecDepth 100000 in
set_option maxHeartbeats 64000000 in
theorem rem_eut (A1 A2 A3 : Option Addr) (xs ys zs : List Nat) (n c m d q b : Nat) (w : World) (HL : Hid (Lai w)) (ha : Hid (Ar .u16 65536 w A1 xs n c)) (hb : Hid (Ar .u16 65536 w A2 ys m d)) (hc : Hid (Ar .u16 65536 w A3 zs q b)) (hn : n ≤ 1000) (hm : m ≤ 1000) (hq : q ≤ 1000) (dn : decide ((1000 : Int) < (n : Int)) = false) (dm : decide ((1000 : Int) < (m : Int)) = false) (dq : decide ((1000 : Int) < (q : Int)) = false) (HG : Hid (zs.any inB = false)) (HE : Hid (zs.any isEnd = true)) (a er : Nat) (ze : Int) (He : Hid ((er : Int) = ze)) (he : (ze != 0) = true) (T1 : Hid (tokM xs = ⟨[], a, er⟩)) :
    Calls Tryd.prog 10 #[.slice A1 n c, .slice A2 m d, .slice A3 q b] w fun e w' => e = .returned (.bool true) ∧ Plus w w' := by
  obtain ⟨i0, hi, hz0, hz1, hz2⟩ := info_parts infoU16
  have hlen := Lib.hid ha.out.len
  have hlen2 := Lib.hid hb.out.len
  have hlen3 := Lib.hid hc.out.len
  have hxl : xs.length ≤ 1000 := by have := ha.out.len; omega
  have hyl : ys.length ≤ 1000 := by have := hb.out.len; omega
  have hzl : zs.length ≤ 1000 := by have := hc.out.len; omega
  go_enter Tryd.func10, Tryd.ntmps10
  go_wp2_with (go_at_call 11; (with_reducible refine (first_c _ (Lib.hid (HL.out.plus (by repeat' (first | exact Plus.refl _ | refine Plus.alloc ?_ _ | refine Plus.plus ?_ _ | refine Plus.drew ?_ | refine Plus.drewN ?_ _))))).mono ?_); rintro e w1 ⟨rfl, ⟨y0, rfl⟩⟩)
  go_loop [7, 8] (fun s7 s8 => InRel zs s7 s8) (fun _ s8 => ((q : Int) - intOf s8).toNat)
  case atStart => exact ⟨0, by omega, rfl, rfl, rfl⟩
  case round =>
    obtain ⟨k, hk, rfl, rfl, hbd⟩ := hrel
    have HBD := Lib.hid hbd
    clear hbd
    obtain ⟨bb, hbb⟩ : ∃ bb, (zs.take k).any isEnd = bb := ⟨_, rfl⟩
    have HBB := Lib.hid hbb
    rw [hbb]
    clear hbb
    by_cases hlt : k < q
    · have hlt' : k < zs.length := by have := hlen3.out; omega
      obtain ⟨g, o, rfl, hg, hat⟩ := hc.out.rd.at_ hlt'
      have hcell := hat k hlt'
      have hadd := add_addr g o k
      have I0 : Old g w := ⟨hg⟩
      obtain ⟨x, hx⟩ : ∃ x, zs.getD k 0 = x := ⟨_, rfl⟩
      have HNX := Lib.hid (any_next (p := isEnd) hlt')
      have HNB := Lib.hid (any_next (p := inB) hlt')
      rw [hx] at hcell
      have HX := Lib.hid hx
      have HAT := Lib.hid hat
      clear hat hx
      have hgx : inB x = false := by
        have h := List.any_eq_false.1 HG.out x (by rw [← HX.out]; exact getD_mem hlt')
        simpa using h
      have HGX := Lib.hid hgx
      have t1 : ((x : Int) == 42) = false := by simp [inB] at hgx; simp; omega
      have t2 : ((x : Int) == 8232) = false := by simp [inB] at hgx; simp; omega
      have t3 : ((x : Int) == 8233) = false := by simp [inB] at hgx; simp; omega
      clear hgx
      have HN2 : Hid ((zs.take (k + 1)).any inB = false) := Lib.hid (by rw [HNB.out, HBD.out, HX.out, HGX.out]; rfl)
      cases bb
      · have hcs : ((x : Int) == 10) = true ∧ isEnd x = true ∨ ((x : Int) == 10) = false ∧ ((x : Int) == 13) = true ∧ isEnd x = true ∨ ((x : Int) == 10) = false ∧ ((x : Int) == 13) = false ∧ isEnd x = false := by
          unfold isEnd
          simp
          omega
        rcases hcs with ⟨t4, p⟩ | ⟨t4, t5, p⟩ | ⟨t4, t5, p⟩
        all_goals
          have HN := Lib.hid (HNX.out.trans (by rw [HBB.out, HX.out, p]))
          clear p
          go_wp2_with fail
          go_round
          case rel => exact ⟨k + 1, hlt', by rw [show ((k + 1 : Nat) : Int) = (k : Int) + 1 by omega], by rw [HN.out]; rfl, HN2.out⟩
          case measure => simp [intOf]; omega
      · have HN : Hid ((zs.take (k + 1)).any isEnd = true) := Lib.hid (by rw [HNX.out, HBB.out]; rfl)
        go_wp2_with fail
        go_round
        case rel => exact ⟨k + 1, hlt', by rw [show ((k + 1 : Nat) : Int) = (k : Int) + 1 by omega], by rw [HN.out], HN2.out⟩
        case measure => simp [intOf]; omega
    · obtain rfl : k = q := by have := hlen3.out; omega
      obtain rfl : bb = true := by
        have := HBB.out
        rw [hlen3.out, List.take_length, HE.out] at this
        exact this.symm
      have NBT : Hid (Ar .u16 65536 (((plus w y0).alloc (.cells #[.int .u16 32] 40)).alloc (.cells #[.int .u16 10] 40)) (some ⟨w.heap.size + y0.blocks.length + 1, 0, none⟩) [10] 1 1) := Lib.hid (ar_lit ((plus w y0).alloc (.cells #[.int .u16 32] 40)) 10 10 (by omega) (by decide) _ (by simp [go_sem]) 40)
      go_wp2_with (first | (at_builtin; refine wpList_append_rd (by rfl) _ _ 25 rfl (((plus w y0).alloc (.cells #[.int .u16 32] 40)).alloc (.cells #[.int .u16 10] 40)).heap.size 40 i0 (.int .u16 0) 2 .u16 Tryd.underlying25 hi hz0 hz1 hz2 (by decide) _ ([32, 47, 42] ++ zs) [42, 47] rfl (own_alloc HO1.out _) _ _ _ rfl rfl (rd_lit2 (plus (((plus w y0).alloc (.cells #[.int .u16 32] 40)).alloc (.cells #[.int .u16 10] 40)) z1) _ (by simp [go_sem]) 40) (by (try simp); unfold maxLen; omega) (by (try simp); omega) (by simp [go_sem] <;> omega) ?_; intro v2 w2 hown2 hgr2; obtain ⟨z2, rfl⟩ := below_rd (own_alloc HO1.out _) (show Plus (((plus w y0).alloc (.cells #[.int .u16 32] 40)).alloc (.cells #[.int .u16 10] 40)) _ from (by repeat' (first | exact Plus.refl _ | refine Plus.alloc ?_ _ | refine Plus.plus ?_ _ | refine Plus.drew ?_ | refine Plus.drewN ?_ _))) hgr2; have HO2 : Hid ((plus (((plus w y0).alloc (.cells #[.int .u16 32] 40)).alloc (.cells #[.int .u16 10] 40)) z2).ownsRow (((plus w y0).alloc (.cells #[.int .u16 32] 40)).alloc (.cells #[.int .u16 10] 40)).heap.size 40 1 v2 (([32, 47, 42] ++ zs) ++ [42, 47]).length (vals .u16 (([32, 47, 42] ++ zs) ++ [42, 47]))) := Lib.hid (own_cat hown2); clear hown2 hgr2) | (at_builtin; refine wpList_append_rd (by rfl) _ _ 25 rfl (((plus w y0).alloc (.cells #[.int .u16 32] 40)).alloc (.cells #[.int .u16 10] 40)).heap.size 40 i0 (.int .u16 0) 2 .u16 Tryd.underlying25 hi hz0 hz1 hz2 (by decide) _ [32, 47, 42] zs rfl (own_lit3 (((plus w y0).alloc (.cells #[.int .u16 32] 40)).alloc (.cells #[.int .u16 10] 40)) _ (by simp [go_sem])) _ _ _ rfl hlen3.out (hc.out.rd.plus (by repeat' (first | exact Plus.refl _ | refine Plus.alloc ?_ _ | refine Plus.plus ?_ _ | refine Plus.drew ?_ | refine Plus.drewN ?_ _))) (by (try simp); unfold maxLen; omega) (by (try simp); omega) (by simp [go_sem] <;> omega) ?_; intro v1 w1 hown1 hgr1; obtain ⟨z1, rfl⟩ := below_rd (own_lit3 (((plus w y0).alloc (.cells #[.int .u16 32] 40)).alloc (.cells #[.int .u16 10] 40)) _ (by simp [go_sem])) (show Plus (((plus w y0).alloc (.cells #[.int .u16 32] 40)).alloc (.cells #[.int .u16 10] 40)) _ from (by repeat' (first | exact Plus.refl _ | refine Plus.alloc ?_ _ | refine Plus.plus ?_ _ | refine Plus.drew ?_ | refine Plus.drewN ?_ _))) hgr1; have HO1 : Hid ((plus (((plus w y0).alloc (.cells #[.int .u16 32] 40)).alloc (.cells #[.int .u16 10] 40)) z1).ownsRow (((plus w y0).alloc (.cells #[.int .u16 32] 40)).alloc (.cells #[.int .u16 10] 40)).heap.size 40 1 v1 ([32, 47, 42] ++ zs).length (vals .u16 ([32, 47, 42] ++ zs))) := Lib.hid (own_cat hown1); clear hown1 hgr1))
      obtain ⟨C2, dd2, rfl, r1, r2, r3⟩ := rd_of_own HO2.out
      have hbx : ∀ x ∈ (([32, 47, 42] ++ zs) ++ [42, 47]), x < 65536 := fun x hx => by
        simp only [List.mem_append, List.mem_cons, List.not_mem_nil, or_false] at hx
        rcases hx with ((rfl | rfl | rfl) | h) | (rfl | rfl)
        · decide
        · decide
        · decide
        · exact hc.out.bd x h
        · decide
        · decide
      have NR : Hid (Ar .u16 65536 _ C2 (([32, 47, 42] ++ zs) ++ [42, 47]) ((([32, 47, 42] ++ zs) ++ [42, 47])).length dd2) := Lib.hid ⟨r3, rfl, r1, r2, hbx⟩
      clear r1 r2 r3 hbx
      obtain ⟨ql, hql⟩ : ∃ ql, ((([32, 47, 42] ++ zs) ++ [42, 47])).length = ql := ⟨_, rfl⟩
      have HQL := Lib.hid hql
      have hqb : ql ≤ 1005 := by rw [← hql]; simp; omega
      have hqa : 5 ≤ ql := by rw [← hql]; simp
      rw [hql] at NR ⊢
      clear hql HO2
      refine (tokR_c _ xs _ _ _ (ha.out.plus (by repeat' (first | exact Plus.refl _ | refine Plus.alloc ?_ _ | refine Plus.plus ?_ _ | refine Plus.drew ?_ | refine Plus.drewN ?_ _))) (by omega) (HL.out.plus (by repeat' (first | exact Plus.refl _ | refine Plus.alloc ?_ _ | refine Plus.plus ?_ _ | refine Plus.drew ?_ | refine Plus.drewN ?_ _)))).mono ?_
      rintro e w1 ⟨B1, d1, rs1, rfl, m1, k1, j1, R1, t1, ⟨y1, rfl⟩⟩
      rw [T1.out] at m1 ⊢
      dsimp only at m1 ⊢
      have M1 := Lib.hid m1
      have RR1 := Lib.hid R1
      have TT1 := Lib.hid t1
      clear m1 R1 t1
      rw [He.out]
      go_wp2_with (first | (go_at_call 11; (with_reducible refine (first_c _ (Lib.hid (HL.out.plus (by repeat' (first | exact Plus.refl _ | refine Plus.alloc ?_ _ | refine Plus.plus ?_ _ | refine Plus.drew ?_ | refine Plus.drewN ?_ _))))).mono ?_); rintro e w1 ⟨rfl, ⟨y5, rfl⟩⟩))
      go_ret
      exact ⟨rfl, (by repeat' (first | exact Plus.refl _ | refine Plus.alloc ?_ _ | refine Plus.plus ?_ _ | refine Plus.drew ?_ | refine Plus.drewN ?_ _))⟩
end Go.Proofs.YtaigkjffglbknaaDoor
