/- The walk of LexRises, where all is well. -/
import Derived.Deep.QuietTactic
import Derived.BigQuiet
import Derived.Deep.RegionHeld3
import Derived.IntWalk
import Derived.Test.YtaigkjffglbknaaDoorL4w
namespace Go.Proofs.YtaigkjffglbknaaDoor
open Go.RowKit


theorem ar_sub {w : World} {g o n c ta sz m : Nat} {xs : List Nat} (h : Ar .u16 65536 w (some ⟨g, o, none⟩) xs n c) (h1 : ta + sz ≤ n) (hm : m = sz) : Ar .u16 65536 w (some ⟨g, o + ta, none⟩) ((xs.drop ta).take sz) m (c - ta) := by
  have hl := h.len
  have hc := h.cap
  have hx := h.max
  have hl2 : ((xs.drop ta).take sz).length = sz := by rw [List.length_take, List.length_drop]; omega
  refine ⟨fun h0 => ?_, by rw [hl2, hm], by omega, by omega, fun x hx => h.bd x (List.mem_of_mem_drop (List.mem_of_mem_take hx))⟩
  obtain ⟨g', o', e, hg, hat⟩ := h.rd.at_ (j := 0) (by omega)
  injection e with e
  injection e with e1 e2 _
  subst e1 e2
  exact ⟨_, _, rfl, hg, (hat.drop ta).take sz⟩
def RsRel (L : List Tk) (s6 s7 : Value) : Prop := ∃ k : Nat, k ≤ L.length ∧ s7 = .int .i64 k ∧ ∃ z : Int, z = (enAt L k : Nat) ∧ s6 = .int .i64 z
theorem Ar.undrew {k : IntKind} {K : Nat} {w : World} {A : Option Addr} {xs : List Nat} {n c : Nat} (h : Ar k K w.drew A xs n c) : Ar k K w A xs n c := ⟨h.rd, h.len, h.cap, h.max, h.bd⟩
theorem rs_next {L : List Tk} {k : Nat} {z : Int} (h : k < L.length) (h2 : z = (enAt L (k + 1) : Nat)) : RsRel L (.int .i64 z) (.int .i64 ((k : Int) + 1)) := ⟨k + 1, h, by rw [show ((k + 1 : Nat) : Int) = (k : Int) + 1 by omega], z, h2, rfl⟩
theorem en_succ {L : List Tk} {k : Nat} (h : k < L.length) : enAt L (k + 1) = enT L[k] := by
  show enT (L.getD k tk0) = _
  rw [List.getD_eq_getElem?_getD, List.getElem?_eq_getElem h]
  rfl
theorem getD_k {L : List Tk} {k : Nat} (h : k < L.length) : L.getD k tk0 = L[k] := by
  rw [List.getD_eq_getElem?_getD, List.getElem?_eq_getElem h]
  rfl
set_option maxRecDepth 100000 in
set_option maxHeartbeats 64000000 in
theorem rise_ok (A1 : Option Addr) (xs : List Nat) (n c : Nat) (w : World) (HL : Hid (Lai w)) (ha : Hid (Ar .u16 65536 w A1 xs n c)) (hn : n ≤ 5000) (dn : decide ((5000 : Int) < (n : Int)) = false) (l : List Tk) (nl : Bool) (hch : Hid (Chain xs l xs.length)) (hll : l.length ≤ xs.length) (T1 : Hid (tokM xs = ⟨l ++ [{ tk0 with a := xs.length, nl := nl }], 0, 0⟩)) : Calls Tryd.prog 4 #[.slice A1 n c] w fun e w' => e = .returned (.bool true) ∧ Plus w w' := by
  have hlen := Lib.hid ha.out.len
  have hxl : xs.length ≤ 5000 := by have := ha.out.len; omega
  go_enter Tryd.func4, Tryd.ntmps4
  go_wp2_with (go_at_call 11; (with_reducible refine (first_c _ (Lib.hid (HL.out.plus (by repeat' (first | exact Plus.refl _ | refine Plus.alloc ?_ _ | refine Plus.plus ?_ _ | refine Plus.drew ?_ | refine Plus.drewN ?_ _))))).mono ?_); rintro e w1 ⟨rfl, ⟨y0, rfl⟩⟩)
  refine (tokR_c _ xs _ _ _ (ha.out.plus (by repeat' (first | exact Plus.refl _ | refine Plus.alloc ?_ _ | refine Plus.plus ?_ _ | refine Plus.drew ?_ | refine Plus.drewN ?_ _))) (by omega) (HL.out.plus (by repeat' (first | exact Plus.refl _ | refine Plus.alloc ?_ _ | refine Plus.plus ?_ _ | refine Plus.drew ?_ | refine Plus.drewN ?_ _)))).mono ?_
  rintro e w1 ⟨B1, d1, rs1, rfl, m1, k1, j1, R1, t1, ⟨y1, rfl⟩⟩
  rw [T1.out] at m1 ⊢
  dsimp only at m1 ⊢
  have M1 := Lib.hid m1
  have RR1 := Lib.hid R1
  clear m1 R1 t1
  obtain ⟨L, hL⟩ : ∃ L, l ++ [{ tk0 with a := xs.length, nl := nl }] = L := ⟨_, rfl⟩
  have HLE := Lib.hid hL
  rw [hL] at M1
  have l0 : L.length = l.length + 1 := by rw [← hL]; simp
  have l1 : rs1.length = L.length := len_of M1.out
  obtain ⟨P, hP⟩ : ∃ P, l.length = P := ⟨_, rfl⟩
  rw [hP] at l0 hll
  rw [l0] at l1
  have HP := Lib.hid hP
  have E1 := Lib.hid l1
  have E0 := Lib.hid l0
  have hPb : P ≤ 5000 := by omega
  obtain ⟨g1, eB1, hg1, hc1⟩ := RR1.out (by omega)
  subst eB1
  have HC1 := Lib.hid hc1
  have I1 : Old g1 (plus (plus w y0) y1) := ⟨hg1⟩
  have fP : L[P]'(by omega) = { tk0 with a := xs.length, nl := nl } := by
    subst hL
    rw [List.getElem_append_right (by omega)]
    simp
  have HFP : Hid (∀ h : P < L.length, L[P] = ⟨0, ⟨#[]⟩, [], 0, 0, 0, xs.length, nl⟩) := Lib.hid fun _ => fP
  have eP : (rs1[P]'(by omega)).t = { tk0 with a := xs.length, nl := nl } := (el_of M1.out (by omega) (List.getElem?_eq_getElem (by omega))).trans fP
  have pk0 : (plus (plus w y0) y1).cell? ⟨g1, P * 9, none⟩ = some (.int .i64 0) := by
    have q := row_cell HC1.out (i := P) (j := 0) (by omega) (by decide)
    have e : (trC (rs1[P]'(by omega)))[0]? = some (.int .i64 (rs1[P]'(by omega)).t.k) := rfl
    rw [e, eP] at q
    exact q
  have pk7 : (plus (plus w y0) y1).cell? ⟨g1, P * 9 + 7, none⟩ = some (.int .i64 (n : Int)) := by
    have q := row_cell HC1.out (i := P) (j := 7) (by omega) (by decide)
    have e : (trC (rs1[P]'(by omega)))[7]? = some (.int .i64 ((rs1[P]'(by omega)).t.a : Int)) := rfl
    rw [e, eP] at q
    rw [hlen.out]
    exact q
  rw [l1]
  have b0 : ((P : Int) + 1 == 0) = false := by simp; omega
  have hw1 : IntKind.i64.wrap ((P : Int) + 1 - 1) = P := by rw [IntWalk.i64_in _ (by omega)]; omega
  have c1 : (0 : Int) ≤ (P : Int) := by omega
  clear hc1 hP fP eP l1 l0 hL
  go_wp2_with fail
  clear pk0 pk7
  go_loopw [6, 7] (fun s6 s7 wr => RsRel L s6 s7 ∧ Plus (plus (plus w y0) y1) wr) (fun _ s7 _ => ((P : Int) + 1 - intOf s7).toNat)
  case atStart => exact ⟨⟨0, by omega, rfl, 0, rfl, rfl⟩, (by repeat' (first | exact Plus.refl _ | refine Plus.alloc ?_ _ | refine Plus.plus ?_ _ | refine Plus.drew ?_ | refine Plus.drewN ?_ _))⟩
  case round =>
    obtain ⟨⟨k, hk, rfl, zE, hzE, rfl⟩, hp⟩ := hrel
    obtain ⟨x0, rfl⟩ := hp
    have hkP : k ≤ P + 1 := by rw [← E0.out]; exact hk
    clear hk
    by_cases hlt : k < P + 1
    · have kL : k < L.length := by have := E0.out; omega
      have i1 : k < rs1.length := by have := E1.out; omega
      have f1 : rs1[k].t = L[k] := el_of M1.out i1 (List.getElem?_eq_getElem kL)
      have HEN : Hid (enAt L (k + 1) = enT L[k]) := Lib.hid (en_succ kL)
      have hfact : (k = P ∧ L[k] = ⟨0, ⟨#[]⟩, [], 0, 0, 0, xs.length, nl⟩ ∧ enAt L k ≤ xs.length) ∨ (k < P ∧ TokOK xs L[k] ∧ enAt L k ≤ L[k].a) := by
        have hc := hch.out
        have hPo := HP.out
        have e0 : enAt L k = enAt l k := by rw [← HLE.out]; exact enAt_app (by omega)
        by_cases q : k = P
        · left
          subst q
          exact ⟨rfl, HFP.out _, by rw [e0, ← hPo]; exact hc.2⟩
        · right
          have hkl : k < l.length := by omega
          have h2 := hc.1 k hkl
          have e1 : l.getD k tk0 = L[k] := by rw [← getD_k kL, ← HLE.out, getD_app hkl]
          rw [e1] at h2
          exact ⟨by omega, h2.1, by rw [e0]; exact h2.2⟩
      obtain ⟨ze, hze⟩ : ∃ ze, enAt L k = ze := ⟨_, rfl⟩
      rw [hze] at hfact hzE
      clear hze
      obtain ⟨⟨tk, tt, ts, tnk, tn, tb, ta, tnl⟩, hT⟩ : ∃ T, L[k] = T := ⟨_, rfl⟩
      rw [hT] at f1 hfact HEN
      obtain ⟨r, hr⟩ : ∃ r, rs1[k] = r := ⟨_, rfl⟩
      rw [hr] at f1
      obtain ⟨u, As, cs, Am, cm⟩ := r
      dsimp only at f1
      subst f1
      obtain ⟨za, hza⟩ : ∃ z : Int, z = (ta : Int) := ⟨_, rfl⟩
      have p0 : (plus (plus w y0) y1).cell? ⟨g1, k * 9, none⟩ = some (.int .i64 tk) := by have q := row_cell HC1.out (i := k) (j := 0) (by omega) (by decide); rw [hr] at q; (first | exact q | (rw [hza]; exact q))
      have p1 : (plus (plus w y0) y1).cell? ⟨g1, k * 9 + 1, none⟩ = some (.string tt) := by have q := row_cell HC1.out (i := k) (j := 1) (by omega) (by decide); rw [hr] at q; (first | exact q | (rw [hza]; exact q))
      have p2 : (plus (plus w y0) y1).cell? ⟨g1, k * 9 + 2, none⟩ = some (.slice As ts.length cs) := by have q := row_cell HC1.out (i := k) (j := 2) (by omega) (by decide); rw [hr] at q; (first | exact q | (rw [hza]; exact q))
      have p3 : (plus (plus w y0) y1).cell? ⟨g1, k * 9 + 3, none⟩ = some (.int .i64 tnk) := by have q := row_cell HC1.out (i := k) (j := 3) (by omega) (by decide); rw [hr] at q; (first | exact q | (rw [hza]; exact q))
      have p4 : (plus (plus w y0) y1).cell? ⟨g1, k * 9 + 4, none⟩ = some (.int .i64 tn) := by have q := row_cell HC1.out (i := k) (j := 4) (by omega) (by decide); rw [hr] at q; (first | exact q | (rw [hza]; exact q))
      have p5 : (plus (plus w y0) y1).cell? ⟨g1, k * 9 + 5, none⟩ = some (.bool (decide (tb < 0))) := by have q := row_cell HC1.out (i := k) (j := 5) (by omega) (by decide); rw [hr] at q; (first | exact q | (rw [hza]; exact q))
      have p6 : (plus (plus w y0) y1).cell? ⟨g1, k * 9 + 6, none⟩ = some (.slice Am (Bg.dig tb.natAbs).length cm) := by have q := row_cell HC1.out (i := k) (j := 6) (by omega) (by decide); rw [hr] at q; (first | exact q | (rw [hza]; exact q))
      have p7 : (plus (plus w y0) y1).cell? ⟨g1, k * 9 + 7, none⟩ = some (.int .i64 za) := by have q := row_cell HC1.out (i := k) (j := 7) (by omega) (by decide); rw [hr] at q; (first | exact q | (rw [hza]; exact q))
      have p8 : (plus (plus w y0) y1).cell? ⟨g1, k * 9 + 8, none⟩ = some (.bool tnl) := by have q := row_cell HC1.out (i := k) (j := 8) (by omega) (by decide); rw [hr] at q; (first | exact q | (rw [hza]; exact q))
      clear hr hT kL i1
      have HZA := Lib.hid hza
      have HKL : Hid (k < L.length) := Lib.hid (by have := E0.out; omega)
      have hzab : 0 ≤ za := by omega
      clear hza
      rcases hfact with ⟨rfl, hE, h1⟩ | ⟨hlP, ⟨h1, h2⟩, h3⟩
      · injection hE with e1 e2 e3 e4 e5 e6 e7 e8
        subst e1 e2 e3 e4 e5 e6 e7 e8
        have q1 : decide (za < zE) = false := by have := HZA.out; simp; omega
        have q2 : decide ((n : Int) < za) = false := by have := hlen.out; have := HZA.out; simp; omega
        have q3 : za ≤ 5000 := by have := HZA.out; omega
        clear hzE h1
        have HEN2 : Hid (enAt L (k + 1) = xs.length + 1) := Lib.hid (by rw [HEN.out]; rfl)
        clear HEN
        go_wp2_with fail
        go_roundw
        case rel => exact ⟨rs_next HKL.out (by rw [HEN2.out]; have := HZA.out; omega), (by repeat' (first | exact Plus.refl _ | refine Plus.alloc ?_ _ | refine Plus.plus ?_ _ | refine Plus.drew ?_ | refine Plus.drewN ?_ _))⟩
        case measure => simp [intOf]
      have q1 : decide (za < zE) = false := by have := HZA.out; dsimp only at h3; simp; omega
      have q2 : decide ((n : Int) < za) = false := by have := hlen.out; have := HZA.out; dsimp only at h1; simp; omega
      have q4 : za ≤ 5000 := by have := hlen.out; have := HZA.out; dsimp only at h1; omega
      have q3 : ((k : Int) == (P : Int)) = false := by simp; omega
      clear h3 hzE
      rcases h2 with h2 | ⟨h2, hs, hs2, hs3⟩
      · have hkk : (tk == 0) = false ∧ (tk == 1) = false ∧ (tk == 6) = false ∧ (tk == 5) = false ∧ enT ⟨tk, tt, ts, tnk, tn, tb, ta, tnl⟩ = ta + 1 := by
          dsimp only at h2
          rcases h2 with rfl | rfl | rfl <;> exact ⟨by decide, by decide, by decide, by decide, rfl⟩
        obtain ⟨b1, b2, b3, b4, b5⟩ := hkk
        have HEN2 : Hid (enAt L (k + 1) = ta + 1) := Lib.hid (HEN.out.trans b5)
        clear HEN b5 h2
        go_wp2_with fail
        go_roundw
        case rel => exact ⟨rs_next HKL.out (by rw [HEN2.out]; have := HZA.out; omega), (by repeat' (first | exact Plus.refl _ | refine Plus.alloc ?_ _ | refine Plus.plus ?_ _ | refine Plus.drew ?_ | refine Plus.drewN ?_ _))⟩
        case measure => simp [intOf]; omega
      have hs' : 0 < tt.size := hs
      have hs2' : tt.size ≤ xs.length - ta := hs2
      have h1' : ta < xs.length := h1
      have hs3' : (xs.drop ta).take tt.size = nats tt := hs3
      have hT1 : tt.size ≤ 1048576 := by omega
      have HTB : Hid (tt.size ≤ 140737488355328) := Lib.hid (by omega)
      have HT1 : Hid (tt.size ≤ 1048576) := Lib.hid hT1
      have HT0 : Hid (0 < (nats tt).length) := Lib.hid (by rw [nats_len]; exact hs')
      have HTA : Hid (ta + tt.size ≤ n) := Lib.hid (by have := hlen.out; omega)
      have HUN : Hid (decide ((xs.drop ta).take tt.size = nats tt) = true) := Lib.hid (decide_eq_true hs3')
      obtain ⟨g, o, rfl, hg, hat⟩ := ha.out.rd.at_ (j := ta) h1'
      have I0 : Old g w := ⟨hg⟩
      obtain ⟨sz, hsz⟩ : ∃ sz : Int, sz = (tt.size : Int) := ⟨_, rfl⟩
      have HSZ := Lib.hid hsz
      have f1 : ((tt.size : Int) == 0) = false := beq_eq_false_iff_ne.2 (by omega)
      have f2 : decide ((n : Int) - za < (tt.size : Int)) = false := by have := hlen.out; have := HZA.out; simp; omega
      have hcap := ha.out.cap
      have f4 : (0 : Int) ≤ (tt.size : Int) := by omega
      have f5 : za + (tt.size : Int) ≤ (c : Int) := by have := hlen.out; have := HZA.out; omega
      have f3 : za.toNat = ta := by have := HZA.out; omega
      have f6 : (za + (tt.size : Int)).toNat = ta + tt.size := by have := HZA.out; omega
      have f8 : tt.size ≤ 5000 := by omega
      have fc : ¬ c = ta := by have := hlen.out; omega
      have HFC := Lib.hid fc
      have w1 : IntKind.i64.wrap ((n : Int) - za) = (n : Int) - za := IntWalk.i64_in _ (by omega)
      have w2 : IntKind.i64.wrap (za + (tt.size : Int)) = za + (tt.size : Int) := IntWalk.i64_in _ (by omega)
      have w3 : za ≤ za + (tt.size : Int) := by omega
      clear hat hs hs2 hs3 hs' hs2' hs3' h1 h1' hT1 hcap hsz
      rcases h2 with ⟨hk1, hnm, hwd, hsg⟩ | ⟨hk1, hnm, hwd, hsg⟩ | ⟨hk1, hnm, hwd, hsg⟩
      · obtain rfl : tk = 1 := hk1
        have HNM : Hid (nameB tt = true) := Lib.hid hnm
        have HEN2 : Hid (enAt L (k + 1) = ta + tt.size) := Lib.hid (by rw [HEN.out]; rfl)
        have HWD : Hid ((wordN tt.data.toList : Int) = 0) := Lib.hid (by have : wordN tt.data.toList = 0 := hwd; rw [this]; rfl)
        have HSG : Hid ((signN tt.data.toList : Int) = 0) := Lib.hid (by have : signN tt.data.toList = 0 := hsg; rw [this]; rfl)
        clear hnm hwd hsg HEN
        go_wp2_with fail
        go_region_held3 (fun w' => w'.cell? ⟨w.heap.size + y0.blocks.length + y1.blocks.length + x0.blocks.length, 0, none⟩ = some (.int .i64 1) ∧ w'.cell? ⟨w.heap.size + y0.blocks.length + y1.blocks.length + x0.blocks.length, 1, none⟩ = some (.string tt) ∧ w'.cell? ⟨w.heap.size + y0.blocks.length + y1.blocks.length + x0.blocks.length, 7, none⟩ = some (.int .i64 za)) (refine ⟨?_, ?_, ?_⟩ <;> simp [go_sem]) (first | (go_at_call 20; (with_reducible refine (ascii_c tt HTB.out _).mono ?_); rintro e w1 ⟨A5, c5, rfl, q1, q2, q3, ⟨x5, rfl⟩⟩; have NA0 := nats_new q1 q2 q3; obtain ⟨g5, o5, rfl, _, _⟩ := NA0.rd.at_ (j := 0) HT0.out; have NA := Lib.hid NA0; clear NA0 q1 q2 q3; dsimp only) | (go_at_call 19; (try rw [if_neg HFC.out]); (with_reducible refine (runits_c _ _ ((xs.drop ta).take tt.size) (nats tt) _ _ _ _ _ (ar_sub (ha.out.plus (by repeat' (first | exact Plus.refl _ | refine Plus.alloc ?_ _ | refine Plus.plus ?_ _ | refine Plus.drew ?_ | refine Plus.drewN ?_ _))) HTA.out (by omega)) (by have q := NA.out; (try simp only [plus_drew] at q); first | exact q | exact q.undrew | exact q.plus (by repeat' (first | exact Plus.refl _ | refine Plus.alloc ?_ _ | refine Plus.plus ?_ _ | refine Plus.drew ?_ | refine Plus.drewN ?_ _)) | exact q.undrew.plus (by repeat' (first | exact Plus.refl _ | refine Plus.alloc ?_ _ | refine Plus.plus ?_ _ | refine Plus.drew ?_ | refine Plus.drewN ?_ _)))).mono ?_); rintro e w1 ⟨rfl, ⟨x6, rfl⟩⟩; rw [HUN.out]; dsimp only) | (go_at_call 16; (with_reducible refine (name_k HT1.out HNM _).mono ?_); rintro e w1 ⟨rfl, ⟨x7, rfl⟩⟩; dsimp only) | (go_at_call 14; (with_reducible refine (sign_k HSG _).mono ?_); rintro e w1 ⟨rfl, ⟨x8, rfl⟩⟩; dsimp only) | (go_at_call 12; (with_reducible refine (word_k HWD _).mono ?_); rintro e w1 ⟨rfl, ⟨x10, rfl⟩⟩; dsimp only))
        all_goals
          clear w1 w2
          go_wp2_with fail
          go_roundw
          case rel => exact ⟨rs_next HKL.out (by rw [HEN2.out]; have := HZA.out; omega), (by repeat' (first | exact Plus.refl _ | refine Plus.alloc ?_ _ | refine Plus.plus ?_ _ | refine Plus.drew ?_ | refine Plus.drewN ?_ _))⟩
          case measure => simp [intOf]; omega
      · obtain rfl : tk = 6 := hk1
        have HNM : Hid (nameB tt = false) := Lib.hid hnm
        have HEN2 : Hid (enAt L (k + 1) = ta + tt.size) := Lib.hid (by rw [HEN.out]; rfl)
        obtain ⟨zw, hzw⟩ : ∃ zw : Int, (wordN tt.data.toList : Int) = zw := ⟨_, rfl⟩
        have hzw0 : decide (0 < zw) = true := by have : 0 < wordN tt.data.toList := hwd; simp; omega
        have HWD := Lib.hid hzw
        clear hzw
        have HSG : Hid ((signN tt.data.toList : Int) = 0) := Lib.hid (by have : signN tt.data.toList = 0 := hsg; rw [this]; rfl)
        clear hnm hwd hsg HEN
        go_wp2_with fail
        go_region_held3 (fun w' => w'.cell? ⟨w.heap.size + y0.blocks.length + y1.blocks.length + x0.blocks.length, 0, none⟩ = some (.int .i64 6) ∧ w'.cell? ⟨w.heap.size + y0.blocks.length + y1.blocks.length + x0.blocks.length, 1, none⟩ = some (.string tt) ∧ w'.cell? ⟨w.heap.size + y0.blocks.length + y1.blocks.length + x0.blocks.length, 7, none⟩ = some (.int .i64 za)) (refine ⟨?_, ?_, ?_⟩ <;> simp [go_sem]) (first | (go_at_call 20; (with_reducible refine (ascii_c tt HTB.out _).mono ?_); rintro e w1 ⟨A5, c5, rfl, q1, q2, q3, ⟨x5, rfl⟩⟩; have NA0 := nats_new q1 q2 q3; obtain ⟨g5, o5, rfl, _, _⟩ := NA0.rd.at_ (j := 0) HT0.out; have NA := Lib.hid NA0; clear NA0 q1 q2 q3; dsimp only) | (go_at_call 19; (try rw [if_neg HFC.out]); (with_reducible refine (runits_c _ _ ((xs.drop ta).take tt.size) (nats tt) _ _ _ _ _ (ar_sub (ha.out.plus (by repeat' (first | exact Plus.refl _ | refine Plus.alloc ?_ _ | refine Plus.plus ?_ _ | refine Plus.drew ?_ | refine Plus.drewN ?_ _))) HTA.out (by omega)) (by have q := NA.out; (try simp only [plus_drew] at q); first | exact q | exact q.undrew | exact q.plus (by repeat' (first | exact Plus.refl _ | refine Plus.alloc ?_ _ | refine Plus.plus ?_ _ | refine Plus.drew ?_ | refine Plus.drewN ?_ _)) | exact q.undrew.plus (by repeat' (first | exact Plus.refl _ | refine Plus.alloc ?_ _ | refine Plus.plus ?_ _ | refine Plus.drew ?_ | refine Plus.drewN ?_ _)))).mono ?_); rintro e w1 ⟨rfl, ⟨x6, rfl⟩⟩; rw [HUN.out]; dsimp only) | (go_at_call 16; (with_reducible refine (name_k HT1.out HNM _).mono ?_); rintro e w1 ⟨rfl, ⟨x7, rfl⟩⟩; dsimp only) | (go_at_call 14; (with_reducible refine (sign_k HSG _).mono ?_); rintro e w1 ⟨rfl, ⟨x8, rfl⟩⟩; dsimp only) | (go_at_call 12; (with_reducible refine (word_k HWD _).mono ?_); rintro e w1 ⟨rfl, ⟨x10, rfl⟩⟩; dsimp only))
        all_goals
          clear w1 w2
          go_wp2_with fail
          go_roundw
          case rel => exact ⟨rs_next HKL.out (by rw [HEN2.out]; have := HZA.out; omega), (by repeat' (first | exact Plus.refl _ | refine Plus.alloc ?_ _ | refine Plus.plus ?_ _ | refine Plus.drew ?_ | refine Plus.drewN ?_ _))⟩
          case measure => simp [intOf]; omega
      · obtain rfl : tk = 5 := hk1
        have HNM : Hid (nameB tt = false) := Lib.hid hnm
        have HEN2 : Hid (enAt L (k + 1) = ta + tt.size) := Lib.hid (by rw [HEN.out]; rfl)
        have HWD : Hid ((wordN tt.data.toList : Int) = 0) := Lib.hid (by have : wordN tt.data.toList = 0 := hwd; rw [this]; rfl)
        have HSG : Hid ((signN tt.data.toList : Int) = 1) := Lib.hid (by have : signN tt.data.toList = 1 := hsg; rw [this]; rfl)
        clear hnm hwd hsg HEN
        go_wp2_with fail
        go_region_held3 (fun w' => w'.cell? ⟨w.heap.size + y0.blocks.length + y1.blocks.length + x0.blocks.length, 0, none⟩ = some (.int .i64 5) ∧ w'.cell? ⟨w.heap.size + y0.blocks.length + y1.blocks.length + x0.blocks.length, 1, none⟩ = some (.string tt) ∧ w'.cell? ⟨w.heap.size + y0.blocks.length + y1.blocks.length + x0.blocks.length, 7, none⟩ = some (.int .i64 za)) (refine ⟨?_, ?_, ?_⟩ <;> simp [go_sem]) (first | (go_at_call 20; (with_reducible refine (ascii_c tt HTB.out _).mono ?_); rintro e w1 ⟨A5, c5, rfl, q1, q2, q3, ⟨x5, rfl⟩⟩; have NA0 := nats_new q1 q2 q3; obtain ⟨g5, o5, rfl, _, _⟩ := NA0.rd.at_ (j := 0) HT0.out; have NA := Lib.hid NA0; clear NA0 q1 q2 q3; dsimp only) | (go_at_call 19; (try rw [if_neg HFC.out]); (with_reducible refine (runits_c _ _ ((xs.drop ta).take tt.size) (nats tt) _ _ _ _ _ (ar_sub (ha.out.plus (by repeat' (first | exact Plus.refl _ | refine Plus.alloc ?_ _ | refine Plus.plus ?_ _ | refine Plus.drew ?_ | refine Plus.drewN ?_ _))) HTA.out (by omega)) (by have q := NA.out; (try simp only [plus_drew] at q); first | exact q | exact q.undrew | exact q.plus (by repeat' (first | exact Plus.refl _ | refine Plus.alloc ?_ _ | refine Plus.plus ?_ _ | refine Plus.drew ?_ | refine Plus.drewN ?_ _)) | exact q.undrew.plus (by repeat' (first | exact Plus.refl _ | refine Plus.alloc ?_ _ | refine Plus.plus ?_ _ | refine Plus.drew ?_ | refine Plus.drewN ?_ _)))).mono ?_); rintro e w1 ⟨rfl, ⟨x6, rfl⟩⟩; rw [HUN.out]; dsimp only) | (go_at_call 16; (with_reducible refine (name_k HT1.out HNM _).mono ?_); rintro e w1 ⟨rfl, ⟨x7, rfl⟩⟩; dsimp only) | (go_at_call 14; (with_reducible refine (sign_k HSG _).mono ?_); rintro e w1 ⟨rfl, ⟨x8, rfl⟩⟩; dsimp only) | (go_at_call 12; (with_reducible refine (word_k HWD _).mono ?_); rintro e w1 ⟨rfl, ⟨x10, rfl⟩⟩; dsimp only))
        all_goals
          clear w1 w2
          go_wp2_with fail
          go_roundw
          case rel => exact ⟨rs_next HKL.out (by rw [HEN2.out]; have := HZA.out; omega), (by repeat' (first | exact Plus.refl _ | refine Plus.alloc ?_ _ | refine Plus.plus ?_ _ | refine Plus.drew ?_ | refine Plus.drewN ?_ _))⟩
          case measure => simp [intOf]; omega
    · obtain rfl : k = P + 1 := by omega
      go_wp2_with (first | (go_at_call 11; (with_reducible refine (first_c _ (Lib.hid (HL.out.plus (by repeat' (first | exact Plus.refl _ | refine Plus.alloc ?_ _ | refine Plus.plus ?_ _ | refine Plus.drew ?_ | refine Plus.drewN ?_ _))))).mono ?_); rintro e w1 ⟨rfl, ⟨y5, rfl⟩⟩))
      go_ret
      exact ⟨rfl, (by repeat' (first | exact Plus.refl _ | refine Plus.alloc ?_ _ | refine Plus.plus ?_ _ | refine Plus.drew ?_ | refine Plus.drewN ?_ _))⟩
end Go.Proofs.YtaigkjffglbknaaDoor
