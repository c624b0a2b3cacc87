/- The walk of TextJoins. -/
import Derived.Test.YtlbjjkiflcjkgaaDoorR2
namespace Go.Proofs.YtlbjjkiflcjkgaaDoor
open Go.RowKit


set_option maxRecDepth 100000 in
set_option maxHeartbeats 16000000 in
theorem joins_yy (A C : Option Addr) (xs ys : List Nat) (n c m d : Nat) (w : World) (hL : Hid (Lai w)) (ha : Hid (Ar .u8 256 w A xs n c)) (hb : Hid (Ar .u8 256 w C ys m d)) (f1 : n ≤ 2000) (f2 : m ≤ 2000) (l1 : xs.length ≤ 2000) (l2 : ys.length ≤ 2000) (hml : Hid (m = ys.length)) (U V : List Nat) (h1 : Hid (UnN xs U 0 0)) (h2 : Hid (UnN ys V 0 0)) (h3 : Hid (UnN (xs ++ ys) (U ++ V) 0 0)) (l3 : U.length ≤ 2000) (l4 : V.length ≤ 2000) (hbU : Hid (isU U)) (hbV : Hid (isU V)) : Calls Tryd.prog 8 #[.slice A n c, .slice C m d] w fun e w' => e = .returned (.bool true) ∧ Plus w w' := by
  obtain ⟨iu8, hiu8, hzu8, hsu8, hbu8⟩ := info_parts infoU8
  obtain ⟨iu16, hiu16, hzu16, hsu16, hbu16⟩ := info_parts infoU16
  go_enter Tryd.func8, Tryd.ntmps8
  go_wp2_with fail
  refine (first_c _ (hL.out.plus (by repeat' (first | exact Plus.refl _ | refine Plus.alloc ?_ _ | refine Plus.plus ?_ _ | refine Plus.drew ?_ | refine Plus.drewN ?_ _)))).mono ?_
  rintro e w1 ⟨rfl, ⟨y0, rfl⟩⟩
  go_wp2_with fail
  refine (units_n h1 _ (hL.out.plus (by repeat' (first | exact Plus.refl _ | refine Plus.alloc ?_ _ | refine Plus.plus ?_ _ | refine Plus.drew ?_ | refine Plus.drewN ?_ _))) (ha.out.plus (by repeat' (first | exact Plus.refl _ | refine Plus.alloc ?_ _ | refine Plus.plus ?_ _ | refine Plus.drew ?_ | refine Plus.drewN ?_ _)))).mono ?_
  rintro e w1 ⟨C1, d1, rfl, a1, ⟨x1, rfl⟩⟩
  replace a1 := Lib.hid a1
  go_wp2_with fail
  refine (units_n h2 _ (hL.out.plus (by repeat' (first | exact Plus.refl _ | refine Plus.alloc ?_ _ | refine Plus.plus ?_ _ | refine Plus.drew ?_ | refine Plus.drewN ?_ _))) (hb.out.plus (by repeat' (first | exact Plus.refl _ | refine Plus.alloc ?_ _ | refine Plus.plus ?_ _ | refine Plus.drew ?_ | refine Plus.drewN ?_ _)))).mono ?_
  rintro e w1 ⟨C2, d2, rfl, a2, ⟨x2, rfl⟩⟩
  replace a2 := Lib.hid a2
  go_wp2_with fail
  refine (copyBytes_c _ _ _ _ _ (ha.out.plus (by repeat' (first | exact Plus.refl _ | refine Plus.alloc ?_ _ | refine Plus.plus ?_ _ | refine Plus.drew ?_ | refine Plus.drewN ?_ _))) (by omega)).mono ?_
  rintro e w1 ⟨v3, rfl, hv3, ⟨x3, rfl⟩⟩
  have HV3 := Lib.hid hv3
  clear hv3
  go_wp2_with (at_builtin; refine wpList_append_rd (by rfl) _ _ 22 rfl (plus (plus (plus w y0) x1) x2).heap.size 5 iu8 (.int .u8 0) 1 .u8 Tryd.underlying22 hiu8 hzu8 hsu8 hbu8 (by decide) _ xs ys rfl (own_plus HV3.out (Plus.refl _)) _ _ _ rfl hml.out (hb.out.rd.plus (by repeat' (first | exact Plus.refl _ | refine Plus.alloc ?_ _ | refine Plus.plus ?_ _ | refine Plus.drew ?_ | refine Plus.drewN ?_ _))) (by unfold maxLen; omega) (by omega) (by simp [size_plus]) ?_; intro vv w1 hown1 hgr1; obtain ⟨C4, d4, x4, rfl, rfl, har⟩ := appended_rd HV3.out (Plus.is _) hown1 hgr1 (isB_app ha.out.bd hb.out.bd); have a4 := Lib.hid har; clear har hown1 hgr1)
  refine (units_n h3 _ (hL.out.plus (by repeat' (first | exact Plus.refl _ | refine Plus.alloc ?_ _ | refine Plus.plus ?_ _ | refine Plus.drew ?_ | refine Plus.drewN ?_ _))) ⟨a4.out.rd.plus (by repeat' (first | exact Plus.refl _ | refine Plus.alloc ?_ _ | refine Plus.plus ?_ _ | refine Plus.drew ?_ | refine Plus.drewN ?_ _)), by rw [List.length_append], a4.out.cap, a4.out.max, a4.out.bd⟩).mono ?_
  rintro e w1 ⟨C5, d5, rfl, a5, ⟨x5, rfl⟩⟩
  replace a5 := Lib.hid a5
  go_wp2_with fail
  refine (first_c _ (hL.out.plus (by repeat' (first | exact Plus.refl _ | refine Plus.alloc ?_ _ | refine Plus.plus ?_ _ | refine Plus.drew ?_ | refine Plus.drewN ?_ _)))).mono ?_
  rintro e w1 ⟨rfl, ⟨y1, rfl⟩⟩
  go_wp2_with fail
  refine (copyUnits_c _ _ _ _ _ (a1.out.plus (by repeat' (first | exact Plus.refl _ | refine Plus.alloc ?_ _ | refine Plus.plus ?_ _ | refine Plus.drew ?_ | refine Plus.drewN ?_ _))) (by omega)).mono ?_
  rintro e w1 ⟨v6, rfl, hv6, ⟨x6, rfl⟩⟩
  have HV6 := Lib.hid hv6
  clear hv6
  go_wp2_with (at_builtin; refine wpList_append_rd (by rfl) _ _ 23 rfl (plus (plus (plus (plus (plus (plus w y0) x1) x2) x4) x5) y1).heap.size 35 iu16 (.int .u16 0) 2 .u16 Tryd.underlying23 hiu16 hzu16 hsu16 hbu16 (by decide) _ U V rfl (own_plus HV6.out (Plus.refl _)) _ _ _ rfl rfl (a2.out.rd.plus (by repeat' (first | exact Plus.refl _ | refine Plus.alloc ?_ _ | refine Plus.plus ?_ _ | refine Plus.drew ?_ | refine Plus.drewN ?_ _))) (by unfold maxLen; omega) (by omega) (by simp [size_plus]) ?_; intro vv w1 hown1 hgr1; obtain ⟨C7, d7, x7, rfl, rfl, har⟩ := appended_rd HV6.out (Plus.is _) hown1 hgr1 (isU_app hbU.out hbV.out); have a7 := Lib.hid har; clear har hown1 hgr1)
  refine (refUnits_n (b := true) (xs := U ++ V) (ys := U ++ V) (Lib.hid (by simp)) _ ⟨a5.out.rd.plus (by repeat' (first | exact Plus.refl _ | refine Plus.alloc ?_ _ | refine Plus.plus ?_ _ | refine Plus.drew ?_ | refine Plus.drewN ?_ _)), by rw [List.length_append], by rw [← List.length_append]; exact a5.out.cap, a5.out.max, a5.out.bd⟩ ⟨a7.out.rd.plus (by repeat' (first | exact Plus.refl _ | refine Plus.alloc ?_ _ | refine Plus.plus ?_ _ | refine Plus.drew ?_ | refine Plus.drewN ?_ _)), by rw [List.length_append], a7.out.cap, a7.out.max, a7.out.bd⟩).mono ?_
  rintro e w1 ⟨rfl, ⟨y2, rfl⟩⟩
  go_wp2_with fail
  go_returns
  exact ⟨rfl, (by repeat' (first | exact Plus.refl _ | refine Plus.alloc ?_ _ | refine Plus.plus ?_ _ | refine Plus.drew ?_ | refine Plus.drewN ?_ _))⟩

set_option maxRecDepth 100000 in
set_option maxHeartbeats 16000000 in
theorem joins_yn (A C : Option Addr) (xs ys : List Nat) (n c m d : Nat) (w : World) (hL : Hid (Lai w)) (ha : Hid (Ar .u8 256 w A xs n c)) (hb : Hid (Ar .u8 256 w C ys m d)) (f1 : n ≤ 2000) (f2 : m ≤ 2000) (l1 : xs.length ≤ 2000) (l2 : ys.length ≤ 2000) (hml : Hid (m = ys.length)) (U : List Nat) (p : Nat) (h1 : Hid (UnN xs U 0 0)) (h2 : Hid (UnN ys [] p 2)) (h3 : Hid (UnN (xs ++ ys) [] ((p : Int) + n) 2)) (hp : p ≤ 2000) : Calls Tryd.prog 8 #[.slice A n c, .slice C m d] w fun e w' => e = .returned (.bool true) ∧ Plus w w' := by
  obtain ⟨iu8, hiu8, hzu8, hsu8, hbu8⟩ := info_parts infoU8
  go_enter Tryd.func8, Tryd.ntmps8
  go_wp2_with fail
  refine (first_c _ (hL.out.plus (by repeat' (first | exact Plus.refl _ | refine Plus.alloc ?_ _ | refine Plus.plus ?_ _ | refine Plus.drew ?_ | refine Plus.drewN ?_ _)))).mono ?_
  rintro e w1 ⟨rfl, ⟨y0, rfl⟩⟩
  go_wp2_with fail
  refine (units_n h1 _ (hL.out.plus (by repeat' (first | exact Plus.refl _ | refine Plus.alloc ?_ _ | refine Plus.plus ?_ _ | refine Plus.drew ?_ | refine Plus.drewN ?_ _))) (ha.out.plus (by repeat' (first | exact Plus.refl _ | refine Plus.alloc ?_ _ | refine Plus.plus ?_ _ | refine Plus.drew ?_ | refine Plus.drewN ?_ _)))).mono ?_
  rintro e w1 ⟨C1, d1, rfl, a1, ⟨x1, rfl⟩⟩
  replace a1 := Lib.hid a1
  go_wp2_with fail
  refine (units_n h2 _ (hL.out.plus (by repeat' (first | exact Plus.refl _ | refine Plus.alloc ?_ _ | refine Plus.plus ?_ _ | refine Plus.drew ?_ | refine Plus.drewN ?_ _))) (hb.out.plus (by repeat' (first | exact Plus.refl _ | refine Plus.alloc ?_ _ | refine Plus.plus ?_ _ | refine Plus.drew ?_ | refine Plus.drewN ?_ _)))).mono ?_
  rintro e w1 ⟨C2, d2, rfl, a2, ⟨x2, rfl⟩⟩
  replace a2 := Lib.hid a2
  go_wp2_with fail
  refine (copyBytes_c _ _ _ _ _ (ha.out.plus (by repeat' (first | exact Plus.refl _ | refine Plus.alloc ?_ _ | refine Plus.plus ?_ _ | refine Plus.drew ?_ | refine Plus.drewN ?_ _))) (by omega)).mono ?_
  rintro e w1 ⟨v3, rfl, hv3, ⟨x3, rfl⟩⟩
  have HV3 := Lib.hid hv3
  clear hv3
  go_wp2_with (at_builtin; refine wpList_append_rd (by rfl) _ _ 22 rfl (plus (plus (plus w y0) x1) x2).heap.size 5 iu8 (.int .u8 0) 1 .u8 Tryd.underlying22 hiu8 hzu8 hsu8 hbu8 (by decide) _ xs ys rfl (own_plus HV3.out (Plus.refl _)) _ _ _ rfl hml.out (hb.out.rd.plus (by repeat' (first | exact Plus.refl _ | refine Plus.alloc ?_ _ | refine Plus.plus ?_ _ | refine Plus.drew ?_ | refine Plus.drewN ?_ _))) (by unfold maxLen; omega) (by omega) (by simp [size_plus]) ?_; intro vv w1 hown1 hgr1; obtain ⟨C4, d4, x4, rfl, rfl, har⟩ := appended_rd HV3.out (Plus.is _) hown1 hgr1 (isB_app ha.out.bd hb.out.bd); have a4 := Lib.hid har; clear har hown1 hgr1)
  refine (units_n h3 _ (hL.out.plus (by repeat' (first | exact Plus.refl _ | refine Plus.alloc ?_ _ | refine Plus.plus ?_ _ | refine Plus.drew ?_ | refine Plus.drewN ?_ _))) ⟨a4.out.rd.plus (by repeat' (first | exact Plus.refl _ | refine Plus.alloc ?_ _ | refine Plus.plus ?_ _ | refine Plus.drew ?_ | refine Plus.drewN ?_ _)), by rw [List.length_append], a4.out.cap, a4.out.max, a4.out.bd⟩).mono ?_
  rintro e w1 ⟨C5, d5, rfl, a5, ⟨x5, rfl⟩⟩
  replace a5 := Lib.hid a5
  go_wp2_with fail
  refine (first_c _ (hL.out.plus (by repeat' (first | exact Plus.refl _ | refine Plus.alloc ?_ _ | refine Plus.plus ?_ _ | refine Plus.drew ?_ | refine Plus.drewN ?_ _)))).mono ?_
  rintro e w1 ⟨rfl, ⟨y1, rfl⟩⟩
  go_wp2_with fail
  go_returns
  exact ⟨rfl, (by repeat' (first | exact Plus.refl _ | refine Plus.alloc ?_ _ | refine Plus.plus ?_ _ | refine Plus.drew ?_ | refine Plus.drewN ?_ _))⟩

set_option maxRecDepth 100000 in
set_option maxHeartbeats 16000000 in
theorem joins_n (A C : Option Addr) (xs ys : List Nat) (n c m d : Nat) (w : World) (hL : Hid (Lai w)) (ha : Hid (Ar .u8 256 w A xs n c)) (hb : Hid (Ar .u8 256 w C ys m d)) (f1 : n ≤ 2000) (f2 : m ≤ 2000) (l1 : xs.length ≤ 2000) (l2 : ys.length ≤ 2000) (hml : Hid (m = ys.length)) (V W : List Nat) (p er p2 er2 p3 er3 : Int) (h1 : Hid (UnN xs [] p er)) (he : (er == 0) = false) (h2 : Hid (UnN ys V p2 er2)) (h3 : Hid (UnN (xs ++ ys) W p3 er3)) : Calls Tryd.prog 8 #[.slice A n c, .slice C m d] w fun e w' => e = .returned (.bool true) ∧ Plus w w' := by
  obtain ⟨iu8, hiu8, hzu8, hsu8, hbu8⟩ := info_parts infoU8
  have he2 : (er != 0) = true := by rw [bne, he]; rfl
  go_enter Tryd.func8, Tryd.ntmps8
  go_wp2_with fail
  refine (first_c _ (hL.out.plus (by repeat' (first | exact Plus.refl _ | refine Plus.alloc ?_ _ | refine Plus.plus ?_ _ | refine Plus.drew ?_ | refine Plus.drewN ?_ _)))).mono ?_
  rintro e w1 ⟨rfl, ⟨y0, rfl⟩⟩
  go_wp2_with fail
  refine (units_n h1 _ (hL.out.plus (by repeat' (first | exact Plus.refl _ | refine Plus.alloc ?_ _ | refine Plus.plus ?_ _ | refine Plus.drew ?_ | refine Plus.drewN ?_ _))) (ha.out.plus (by repeat' (first | exact Plus.refl _ | refine Plus.alloc ?_ _ | refine Plus.plus ?_ _ | refine Plus.drew ?_ | refine Plus.drewN ?_ _)))).mono ?_
  rintro e w1 ⟨C1, d1, rfl, a1, ⟨x1, rfl⟩⟩
  replace a1 := Lib.hid a1
  go_wp2_with fail
  refine (units_n h2 _ (hL.out.plus (by repeat' (first | exact Plus.refl _ | refine Plus.alloc ?_ _ | refine Plus.plus ?_ _ | refine Plus.drew ?_ | refine Plus.drewN ?_ _))) (hb.out.plus (by repeat' (first | exact Plus.refl _ | refine Plus.alloc ?_ _ | refine Plus.plus ?_ _ | refine Plus.drew ?_ | refine Plus.drewN ?_ _)))).mono ?_
  rintro e w1 ⟨C2, d2, rfl, a2, ⟨x2, rfl⟩⟩
  replace a2 := Lib.hid a2
  go_wp2_with fail
  refine (copyBytes_c _ _ _ _ _ (ha.out.plus (by repeat' (first | exact Plus.refl _ | refine Plus.alloc ?_ _ | refine Plus.plus ?_ _ | refine Plus.drew ?_ | refine Plus.drewN ?_ _))) (by omega)).mono ?_
  rintro e w1 ⟨v3, rfl, hv3, ⟨x3, rfl⟩⟩
  have HV3 := Lib.hid hv3
  clear hv3
  go_wp2_with (at_builtin; refine wpList_append_rd (by rfl) _ _ 22 rfl (plus (plus (plus w y0) x1) x2).heap.size 5 iu8 (.int .u8 0) 1 .u8 Tryd.underlying22 hiu8 hzu8 hsu8 hbu8 (by decide) _ xs ys rfl (own_plus HV3.out (Plus.refl _)) _ _ _ rfl hml.out (hb.out.rd.plus (by repeat' (first | exact Plus.refl _ | refine Plus.alloc ?_ _ | refine Plus.plus ?_ _ | refine Plus.drew ?_ | refine Plus.drewN ?_ _))) (by unfold maxLen; omega) (by omega) (by simp [size_plus]) ?_; intro vv w1 hown1 hgr1; obtain ⟨C4, d4, x4, rfl, rfl, har⟩ := appended_rd HV3.out (Plus.is _) hown1 hgr1 (isB_app ha.out.bd hb.out.bd); have a4 := Lib.hid har; clear har hown1 hgr1)
  refine (units_n h3 _ (hL.out.plus (by repeat' (first | exact Plus.refl _ | refine Plus.alloc ?_ _ | refine Plus.plus ?_ _ | refine Plus.drew ?_ | refine Plus.drewN ?_ _))) ⟨a4.out.rd.plus (by repeat' (first | exact Plus.refl _ | refine Plus.alloc ?_ _ | refine Plus.plus ?_ _ | refine Plus.drew ?_ | refine Plus.drewN ?_ _)), by rw [List.length_append], a4.out.cap, a4.out.max, a4.out.bd⟩).mono ?_
  rintro e w1 ⟨C5, d5, rfl, a5, ⟨x5, rfl⟩⟩
  replace a5 := Lib.hid a5
  go_wp2_with fail
  refine (first_c _ (hL.out.plus (by repeat' (first | exact Plus.refl _ | refine Plus.alloc ?_ _ | refine Plus.plus ?_ _ | refine Plus.drew ?_ | refine Plus.drewN ?_ _)))).mono ?_
  rintro e w1 ⟨rfl, ⟨y1, rfl⟩⟩
  go_wp2_with fail
  go_returns
  exact ⟨rfl, (by repeat' (first | exact Plus.refl _ | refine Plus.alloc ?_ _ | refine Plus.plus ?_ _ | refine Plus.drew ?_ | refine Plus.drewN ?_ _))⟩

set_option maxRecDepth 100000 in
set_option maxHeartbeats 4000000 in
theorem joins_few (A C : Option Addr) (n c m d : Nat) (w : World) (hL : Hid (Lai w)) (hf : ¬ (n ≤ 2000 ∧ m ≤ 2000)) : Calls Tryd.prog 8 #[.slice A n c, .slice C m d] w fun e w' => e = .returned (.bool true) ∧ Plus w w' := by
  have h3 : 2000 < n ∨ n ≤ 2000 ∧ 2000 < m := by omega
  clear hf
  rcases h3 with f1 | ⟨f1, f2⟩
  all_goals
    go_enter Tryd.func8, Tryd.ntmps8
    go_wp2_with fail
    refine (first_c _ (hL.out.plus (by repeat' (first | exact Plus.refl _ | refine Plus.alloc ?_ _ | refine Plus.plus ?_ _ | refine Plus.drew ?_ | refine Plus.drewN ?_ _)))).mono ?_
    rintro e w1 ⟨rfl, ⟨y0, rfl⟩⟩
    go_wp2_with fail
    refine (first_c _ (hL.out.plus (by repeat' (first | exact Plus.refl _ | refine Plus.alloc ?_ _ | refine Plus.plus ?_ _ | refine Plus.drew ?_ | refine Plus.drewN ?_ _)))).mono ?_
    rintro e w1 ⟨rfl, ⟨y1, rfl⟩⟩
    go_wp2_with fail
    go_returns
    exact ⟨rfl, (by repeat' (first | exact Plus.refl _ | refine Plus.alloc ?_ _ | refine Plus.plus ?_ _ | refine Plus.drew ?_ | refine Plus.drewN ?_ _))⟩

theorem unN_ok {xs : List Nat} (h : xs.length ≤ 4096) (hk : (deu xs).2.2 = true) : UnN xs (deu xs).1 0 0 := .inr (.inl ⟨h, hk, rfl, rfl, rfl⟩)
theorem unN_bad {xs : List Nat} (h : xs.length ≤ 4096) (hk : (deu xs).2.2 = false) : UnN xs [] ((deu xs).2.1 : Nat) 2 := .inr (.inr ⟨h, hk, rfl, rfl, rfl⟩)
theorem unN_ex {xs : List Nat} (h : xs.length ≤ 4096) : ∃ L p er, UnN xs L p er := by
  cases q : (deu xs).2.2
  · exact ⟨_, _, _, unN_bad h q⟩
  · exact ⟨_, _, _, unN_ok h q⟩
set_option maxHeartbeats 4000000 in
theorem joins_w (A C : Option Addr) (xs ys : List Nat) (n c m d : Nat) (w : World) (hL : Lai w) (ha : Ar .u8 256 w A xs n c) (hb : Ar .u8 256 w C ys m d) :
    Calls Tryd.prog 8 #[.slice A n c, .slice C m d] w fun e w' => e = .returned (.bool true) ∧ Plus w w' := by
  by_cases hf : n ≤ 2000 ∧ m ≤ 2000
  · obtain ⟨f1, f2⟩ := hf
    have n1 := ha.len
    have n2 := hb.len
    have l3 : (xs ++ ys).length ≤ 4096 := by rw [List.length_append]; omega
    cases k1 : (deu xs).2.2
    · obtain ⟨V, p2, er2, e2⟩ := unN_ex (xs := ys) (by omega)
      obtain ⟨W, p3, er3, e3⟩ := unN_ex l3
      exact joins_n A C xs ys n c m d w (Lib.hid hL) (Lib.hid ha) (Lib.hid hb) f1 f2 (by omega) (by omega) (Lib.hid n2) V W _ _ _ _ _ _ (Lib.hid (unN_bad (by omega) k1)) rfl (Lib.hid e2) (Lib.hid e3)
    · have hj := deu_app ha.bd ys k1
      have u1 := deu_len (l := xs) ha.bd
      have u2 := (deu_le xs ha.bd).1
      have v1 := deu_len (l := ys) hb.bd
      have v2 := (deu_le ys hb.bd).1
      cases k2 : (deu ys).2.2
      · have e3 := unN_bad l3 (by rw [hj]; exact k2)
        rw [hj] at e3
        dsimp only at e3
        exact joins_yn A C xs ys n c m d w (Lib.hid hL) (Lib.hid ha) (Lib.hid hb) f1 f2 (by omega) (by omega) (Lib.hid n2) _ _ (Lib.hid (unN_ok (by omega) k1)) (Lib.hid (unN_bad (by omega) k2)) (Lib.hid (by rw [show (((deu ys).2.1 : Nat) : Int) + (n : Int) = ((xs.length + (deu ys).2.1 : Nat) : Int) by omega]; exact e3)) (by omega)
      · have e3 := unN_ok l3 (by rw [hj]; exact k2)
        rw [hj] at e3
        exact joins_yy A C xs ys n c m d w (Lib.hid hL) (Lib.hid ha) (Lib.hid hb) f1 f2 (by omega) (by omega) (Lib.hid n2) _ _ (Lib.hid (unN_ok (by omega) k1)) (Lib.hid (unN_ok (by omega) k2)) (Lib.hid e3) (by omega) (by omega) (Lib.hid (deu_U ha.bd)) (Lib.hid (deu_U hb.bd))
  · exact joins_few A C n c m d w (Lib.hid hL) hf
end Go.Proofs.YtlbjjkiflcjkgaaDoor
