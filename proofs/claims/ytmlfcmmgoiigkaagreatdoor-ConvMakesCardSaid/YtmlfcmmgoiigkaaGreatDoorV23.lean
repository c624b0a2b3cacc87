/- Contracts: Plain, renref9.Same, Is, OfTruth, OfNum, OfStr. -/
import Derived.Test.YtmlfcmmgoiigkaaGreatDoorV22
namespace Go.Proofs.YtmlfcmmgoiigkaaGreatDoor
open Go.RowKit

set_option maxRecDepth 100000 in
set_option maxHeartbeats 4000000 in
theorem plain9_c {k p q : Int} {g : Bool} {A C : Option Addr} {n c m d : Nat} {r : Int} (w : World) : Calls Tryz.prog 12 #[Value.agg #[.int .i64 k, .int .i64 p, .int .i64 q, .bool g, .slice A n c, .slice C m d, .int .i64 r]] w fun e w' => e = .returned (Value.agg #[.int .i64 k, .int .i64 p, .int .i64 q, .bool g, .slice A n c, .slice C m d, .int .i64 r]) ∧ Plus w w' := by
  go_enter Tryz.func12, Tryz.ntmps12
  go_wp2_with fail
  go_returns
  exact ⟨rfl, (by repeat' (first | exact Plus.refl _ | refine Plus.alloc ?_ _ | refine Plus.plus ?_ _ | refine Plus.drew ?_ | refine Plus.drewN ?_ _))⟩
def SelfB (p q : Int) : Prop := decide (p = p ∧ q = q) = true
theorem selfB (p q : Int) : SelfB p q := by unfold SelfB; simp
theorem rnum_s {k n : Int} (h : SelfB k n) (w : World) : Calls Tryz.prog 20 #[.agg #[.int .i64 k, .int .i64 n], .agg #[.int .i64 k, .int .i64 n]] w fun e w' => e = .returned (.bool true) ∧ Plus w w' := by
  have := refNum_c k n k n w
  rw [h] at this
  exact this
theorem rbig_s' {g : Bool} {A C : Option Addr} {xs : List Nat} {n c m d : Nat} (h : SelfL xs) (w : World) (ha : Bg.Arg w A xs n c) (hb : Bg.Arg w C xs m d) :
    Calls Tryz.prog 22 #[.agg #[.bool g, .slice A n c], .agg #[.bool g, .slice C m d]] w fun e w' => e = .returned (.bool true) ∧ Plus w w' := rbig_s h w (Lib.hid ha) (Lib.hid hb)
theorem runits_s {A C : Option Addr} {xs : List Nat} {n c m d : Nat} (h : SelfL xs) (w : World) (ha : Ar .u16 65536 w A xs n c) (hb : Ar .u16 65536 w C xs m d) :
    Calls Tryz.prog 27 #[.slice A n c, .slice C m d] w fun e w' => e = .returned (.bool true) ∧ Plus w w' := by
  have := refUnits_c A C xs xs n c m d w ha hb
  rw [h] at this
  exact this
set_option maxRecDepth 100000 in
set_option maxHeartbeats 4000000 in
theorem same9_s {k p q : Int} {g : Bool} {A C A2 C2 : Option Addr} {xs us : List Nat} {n c m d n2 c2 m2 d2 : Nat} {r : Int} (h1 : SelfB p q) (h2 : SelfL xs) (h3 : SelfL us) (hf : n ≤ 1048576) (hf2 : n2 ≤ 1048576) (w : World) (H1 : Hid (VM w A xs n c C us m d)) (H2 : Hid (VM w A2 xs n2 c2 C2 us m2 d2)) : Calls Tryz.prog 30 #[Value.agg #[.int .i64 k, .int .i64 p, .int .i64 q, .bool g, .slice A n c, .slice C m d, .int .i64 r], Value.agg #[.int .i64 k, .int .i64 p, .int .i64 q, .bool g, .slice A2 n2 c2, .slice C2 m2 d2, .int .i64 r]] w fun e w' => e = .returned (.bool true) ∧ Plus w w' := by
  go_enter Tryz.func30, Tryz.ntmps30
  go_wp2_with (first | (go_at_call 20; (with_reducible refine (rnum_s h1 _).mono ?_); rintro e w1 ⟨rfl, ⟨x1, rfl⟩⟩) | (go_at_call 22; (with_reducible refine (rbig_s' h2 _ (arg_ar (H1.out.b.plus (by repeat' (first | exact Plus.refl _ | refine Plus.alloc ?_ _ | refine Plus.plus ?_ _ | refine Plus.drew ?_ | refine Plus.drewN ?_ _))) hf) (arg_ar (H2.out.b.plus (by repeat' (first | exact Plus.refl _ | refine Plus.alloc ?_ _ | refine Plus.plus ?_ _ | refine Plus.drew ?_ | refine Plus.drewN ?_ _))) hf2)).mono ?_); rintro e w1 ⟨rfl, ⟨x2, rfl⟩⟩) | (go_at_call 27; (with_reducible refine (runits_s h3 _ (H1.out.s.plus (by repeat' (first | exact Plus.refl _ | refine Plus.alloc ?_ _ | refine Plus.plus ?_ _ | refine Plus.drew ?_ | refine Plus.drewN ?_ _))) (H2.out.s.plus (by repeat' (first | exact Plus.refl _ | refine Plus.alloc ?_ _ | refine Plus.plus ?_ _ | refine Plus.drew ?_ | refine Plus.drewN ?_ _)))).mono ?_); rintro e w1 ⟨rfl, ⟨x3, rfl⟩⟩))
  go_returns
  exact ⟨rfl, (by repeat' (first | exact Plus.refl _ | refine Plus.alloc ?_ _ | refine Plus.plus ?_ _ | refine Plus.drew ?_ | refine Plus.drewN ?_ _))⟩
theorem same9_h {k p q : Int} {g : Bool} {A C A2 C2 : Option Addr} {xs us : List Nat} {n c m d n2 c2 m2 d2 : Nat} {r : Int} (h1 : SelfB p q) (h2 : SelfL xs) (h3 : SelfL us) (hf : n ≤ 1048576) (hf2 : n2 ≤ 1048576) (w : World) (H1 : VM w A xs n c C us m d) (H2 : VM w A2 xs n2 c2 C2 us m2 d2) : Calls Tryz.prog 30 #[Value.agg #[.int .i64 k, .int .i64 p, .int .i64 q, .bool g, .slice A n c, .slice C m d, .int .i64 r], Value.agg #[.int .i64 k, .int .i64 p, .int .i64 q, .bool g, .slice A2 n2 c2, .slice C2 m2 d2, .int .i64 r]] w fun e w' => e = .returned (.bool true) ∧ Plus w w' := same9_s h1 h2 h3 hf hf2 w (Lib.hid H1) (Lib.hid H2)
set_option maxRecDepth 100000 in
set_option maxHeartbeats 4000000 in
theorem is9_s {k p q : Int} {g : Bool} {A C A2 C2 : Option Addr} {xs us : List Nat} {n c m d n2 c2 m2 d2 : Nat} {r : Int} (h1 : SelfB p q) (h2 : SelfL xs) (h3 : SelfL us) (hf : n ≤ 1048576) (hf2 : n2 ≤ 1048576) (w : World) (H1 : Hid (VM w A xs n c C us m d)) (H2 : Hid (VM w A2 xs n2 c2 C2 us m2 d2)) : Calls Tryz.prog 21 #[Value.agg #[.int .i64 k, .int .i64 p, .int .i64 q, .bool g, .slice A n c, .slice C m d, .int .i64 r], Value.agg #[.int .i64 k, .int .i64 p, .int .i64 q, .bool g, .slice A2 n2 c2, .slice C2 m2 d2, .int .i64 r]] w fun e w' => e = .returned (.bool true) ∧ Plus w w' := by
  go_enter Tryz.func21, Tryz.ntmps21
  go_wp2_with fail
  refine wp_region_plus (by kernel_rfl) (by kernel_rfl) ?_
  repeat (go_big_quiet_step ((first | (go_at_call 12; exact calls_plus (plain9_c _)) | (go_at_call 30; exact calls_plus (same9_h h1 h2 h3 hf hf2 _ (H1.out.plus (by repeat' (first | exact Plus.refl _ | refine Plus.alloc ?_ _ | refine Plus.plus ?_ _ | refine Plus.drew ?_ | refine Plus.drewN ?_ _))) (H2.out.plus (by repeat' (first | exact Plus.refl _ | refine Plus.alloc ?_ _ | refine Plus.plus ?_ _ | refine Plus.drew ?_ | refine Plus.drewN ?_ _))))))))
  refine wpQuiet_nil ?_
  intro _ hw'
  obtain ⟨xq, rfl⟩ := hw'
  go_wp2_with fail
  go_returns
  exact ⟨rfl, (by repeat' (first | exact Plus.refl _ | refine Plus.alloc ?_ _ | refine Plus.plus ?_ _ | refine Plus.drew ?_ | refine Plus.drewN ?_ _))⟩
set_option maxRecDepth 100000 in
set_option maxHeartbeats 4000000 in
theorem oft_t (w : World) : Calls Tryz.prog 37 #[.bool true] w fun e w' => e = .returned (Value.agg #[.int .i64 2, .int .i64 0, .int .i64 0, .bool false, .slice none 0 0, .slice none 0 0, .int .i64 1]) ∧ Plus w w' := by
  go_enter Tryz.func37, Tryz.ntmps37
  go_wp2_with fail
  go_returns
  exact ⟨rfl, (by repeat' (first | exact Plus.refl _ | refine Plus.alloc ?_ _ | refine Plus.plus ?_ _ | refine Plus.drew ?_ | refine Plus.drewN ?_ _))⟩
set_option maxRecDepth 100000 in
set_option maxHeartbeats 4000000 in
theorem oft_f (w : World) : Calls Tryz.prog 37 #[.bool false] w fun e w' => e = .returned (Value.agg #[.int .i64 2, .int .i64 0, .int .i64 0, .bool false, .slice none 0 0, .slice none 0 0, .int .i64 0]) ∧ Plus w w' := by
  go_enter Tryz.func37, Tryz.ntmps37
  go_wp2_with fail
  go_returns
  exact ⟨rfl, (by repeat' (first | exact Plus.refl _ | refine Plus.alloc ?_ _ | refine Plus.plus ?_ _ | refine Plus.drew ?_ | refine Plus.drewN ?_ _))⟩
set_option maxRecDepth 100000 in
set_option maxHeartbeats 4000000 in
theorem ofn_c {p q : Int} (w : World) : Calls Tryz.prog 39 #[.agg #[.int .i64 p, .int .i64 q]] w fun e w' => e = .returned (Value.agg #[.int .i64 3, .int .i64 p, .int .i64 q, .bool false, .slice none 0 0, .slice none 0 0, .int .i64 0]) ∧ Plus w w' := by
  go_enter Tryz.func39, Tryz.ntmps39
  go_wp2_with fail
  go_returns
  exact ⟨rfl, (by repeat' (first | exact Plus.refl _ | refine Plus.alloc ?_ _ | refine Plus.plus ?_ _ | refine Plus.drew ?_ | refine Plus.drewN ?_ _))⟩
set_option maxRecDepth 100000 in
set_option maxHeartbeats 4000000 in
theorem copyUnits_h (A : Option Addr) (xs : List Nat) (n c : Nat) (w : World) (h : Rd .u16 w A xs) (hn : n = xs.length) (hl : xs.length ≤ 1048576) :
    Calls Tryz.prog 47 #[.slice A n c] w fun e w' => ∃ v, e = .returned v ∧ w'.ownsRow w.heap.size 88 1 v xs.length (vals .u16 xs) ∧ Plus w w' := by
  subst hn
  obtain ⟨i0, hi, hz0, hz1, hz2⟩ := info_parts infoU16
  have H := Lib.hid h
  rcases A with _ | ad
  · have h0 : xs = [] := by
      rcases xs with _ | ⟨x, xs⟩
      · rfl
      · obtain ⟨g, o, e, _⟩ := h (by simp)
        cases e
    subst h0
    clear h
    go_enter Tryz.func47, Tryz.ntmps47
    go_wp2
    go_ret
    exact ⟨_, rfl, World.ownsRow_made w #[] 0 (Nat.le_refl _) (Nat.zero_le _) rfl, (by repeat' (first | exact Plus.refl _ | refine Plus.alloc ?_ _ | refine Plus.plus ?_ _ | refine Plus.drew ?_ | refine Plus.drewN ?_ _))⟩
  · clear h
    go_enter Tryz.func47, Tryz.ntmps47
    go_wp2_with (at_builtin; refine wpList_append_own _ rfl _ _ 27 rfl w.heap.size 88 i0 (.int .u16 0) 1 2 Tryz.underlying27 hi hz0 hz1 hz2 rfl (by decide) _ _ _ rfl (World.ownsRow_made w #[] 0 (Nat.le_refl _) (Nat.zero_le _) rfl) ad xs.length c (vals .u16 xs) rfl (by rw [vals_len, Nat.mul_one]) (H.out.alloc _).news (one_vals .u16 xs) (by unfold maxLen; omega) (by omega) (by simp) ?_; intro v1 w1 hown1 hgr1 _; have HW1 := Lib.hid hown1; have HG1 := Lib.hid hgr1; clear hown1 hgr1)
    go_ret
    refine ⟨v1, rfl, by simpa using HW1.out, Plus.of_below (((Below.refl _ w).alloc (Nat.le_refl _) _).grown HG1.out (by simp) (fun k hk => by have hk' : some w.heap.size = some k := hk; injection hk' with hk'; omega))⟩
theorem copyUnits_n {A : Option Addr} {xs : List Nat} {n c : Nat} (w : World) (h : Ar .u16 65536 w A xs n c) (hl : n ≤ 1048576) :
    Calls Tryz.prog 47 #[.slice A n c] w fun e w' => ∃ (D : Option Addr) (k : Nat), e = .returned (.slice D n k) ∧ Ar .u16 65536 w' D xs n k ∧ Plus w w' := by
  refine (copyUnits_h A xs n c w h.rd h.len (by rw [← h.len]; exact hl)).mono ?_
  rintro e w' ⟨v, rfl, ho, hp⟩
  obtain ⟨D, k, rfl, h1, h2, h3⟩ := rd_of_own ho
  have hn := h.len
  subst hn
  exact ⟨D, k, rfl, ⟨h3, rfl, h1, h2, h.bd⟩, hp⟩
set_option maxRecDepth 100000 in
set_option maxHeartbeats 4000000 in
theorem ofs_y {A : Option Addr} {us : List Nat} {n c : Nat} (w : World) (h : Ar .u16 65536 w A us n c) (hl : n ≤ 4096) : Calls Tryz.prog 40 #[.slice A n c] w (StrP us n w) := by
  have HU := Lib.hid h
  have hc := h.cap
  have hm := h.max
  clear h
  have b0 : min (n : Int) 4096 = n := by omega
  go_enter Tryz.func40, Tryz.ntmps40
  go_wp2_with (go_at_call 47; (with_reducible refine (copyUnits_n _ (HU.out.plus (by repeat' (first | exact Plus.refl _ | refine Plus.alloc ?_ _ | refine Plus.plus ?_ _ | refine Plus.drew ?_ | refine Plus.drewN ?_ _))) (by omega)).mono ?_); rintro e w1 ⟨D, k, rfl, hD, ⟨x1, rfl⟩⟩; have HD := Lib.hid hD; clear hD)
  go_returns
  exact ⟨D, k, rfl, HD.out.turn no16, (by repeat' (first | exact Plus.refl _ | refine Plus.alloc ?_ _ | refine Plus.plus ?_ _ | refine Plus.drew ?_ | refine Plus.drewN ?_ _))⟩
set_option maxRecDepth 100000 in
set_option maxHeartbeats 4000000 in
theorem ofs_n {A : Option Addr} {us : List Nat} {n c : Nat} (w : World) (h : Ar .u16 65536 w A us n c) (hl : 4096 < n) : Calls Tryz.prog 40 #[.slice A n c] w (StrP (us.take 4096) 4096 w) := by
  have HU : Hid (Ar .u16 65536 w A (us.take 4096) 4096 c) := Lib.hid ⟨h.rd.take 4096, by rw [List.length_take, ← h.len]; omega, by have := h.cap; omega, h.max, fun x hx => h.bd x (List.mem_of_mem_take hx)⟩
  have hc := h.cap
  have hm := h.max
  clear h
  have b0 : min (n : Int) 4096 = 4096 := by omega
  go_enter Tryz.func40, Tryz.ntmps40
  go_wp2_with (go_at_call 47; (with_reducible refine (copyUnits_n _ (HU.out.plus (by repeat' (first | exact Plus.refl _ | refine Plus.alloc ?_ _ | refine Plus.plus ?_ _ | refine Plus.drew ?_ | refine Plus.drewN ?_ _))) (by omega)).mono ?_); rintro e w1 ⟨D, k, rfl, hD, ⟨x1, rfl⟩⟩; have HD := Lib.hid hD; clear hD)
  go_returns
  exact ⟨D, k, rfl, HD.out.turn no16, (by repeat' (first | exact Plus.refl _ | refine Plus.alloc ?_ _ | refine Plus.plus ?_ _ | refine Plus.drew ?_ | refine Plus.drewN ?_ _))⟩
/-- What a call makes of a text, in every later world. -/
def MkS (F : FuncId) (w : World) (v : Value) (us : List Nat) (m : Nat) : Prop := ∀ w1, Plus w w1 → Calls Tryz.prog F #[v] w1 (StrP us m w1)
theorem MkS.call {F : FuncId} {w w1 : World} {v : Value} {us : List Nat} {m : Nat} (h : MkS F w v us m) (hp : Plus w w1) : Calls Tryz.prog F #[v] w1 (StrP us m w1) := h w1 hp
theorem mk_both {A : Option Addr} {us : List Nat} {n c : Nat} {w : World} (h : Ar .u16 65536 w A us n c) (hn : n ≤ 1048576) : ∃ (vs : List Nat) (m : Nat), m = vs.length ∧ m ≤ 4096 ∧ MkS 36 w (.slice A n c) vs m ∧ MkS 40 w (.slice A n c) vs m := by
  by_cases hl : n ≤ 4096
  · exact ⟨us, n, h.len, hl, fun w1 hp => cstr_y w1 (h.plus hp) hl, fun w1 hp => ofs_y w1 (h.plus hp) hl⟩
  · exact ⟨us.take 4096, 4096, by rw [List.length_take, ← h.len]; omega, Nat.le_refl _, fun w1 hp => cstr_n w1 (h.plus hp) (by omega), fun w1 hp => ofs_n w1 (h.plus hp) (by omega)⟩
end Go.Proofs.YtmlfcmmgoiigkaaGreatDoor
