/- The document's Text. -/
import Derived.Deep.LoopGhost
import Derived.Test.YthaokkmbghgopaaF1
namespace Go.Proofs.Ythaokkmbghgopaa
open Go.RowKit


theorem dec_len78' {n : Nat} (h : n < B ^ 8) : (dec0 n).length ≤ 78 := by
  have := TxtRel.len (m := 0) (bs := (dec0 n).reverse) (by rw [dec0_zero]; simp) h
  simpa using this
theorem bytes_inj' {a b : ByteArray} (h : a.data.toList = b.data.toList) : a = b := by
  cases a
  cases b
  congr 1
  exact Array.toList_inj.1 h
def strLen : Value → Nat | .string s => s.size | _ => 0
def TxtR (V0 : Nat) (w : World) (s4 s5 : Value) (wr : World) : Prop :=
  ∃ (V : Nat) (S : ByteArray) (A : Option Addr) (c : Nat), s4 = .string S ∧ s5 = .slice A (dig V).length c ∧ dec0 V0 = dec0 V ++ S.data.toList ∧ V ≤ V0 ∧ Lim wr A (dig V) ∧ Plus w wr
theorem lim_dig0 (v : Nat) : lim (dig v) 0 = v % B := by
  have h := low_mod (okL_dig v) 1
  rw [low_succ, low_zero, val_dig] at h
  simpa using h
theorem val_ten : val [10] = 10 := by simp [val]
theorem Lim.lit10 (w : World) (g : Nat) (hg : g = w.heap.size) : Lim (w.alloc (.cells #[.int .u32 10] 53)) (some ⟨g, 0, none⟩) [10] := by
  subst hg
  refine ⟨okL.cons (by decide) okL_nil, fun _ => ⟨_, rfl, by simp, fun j hj => ?_⟩⟩
  have : j = 0 := by simp at hj; omega
  subst this
  rw [zero_add_addr, World.cell?_alloc_at _ _ _ _ rfl]
  rfl
theorem txt_step {V0 V : Nat} {S T : ByteArray} (h : dec0 V0 = dec0 V ++ S.data.toList) (hV : V ≠ 0) (hT : T = ⟨#[UInt8.ofNat (48 + V % 10)]⟩) : dec0 V0 = dec0 (V / 10) ++ (T ++ S).data.toList := by
  rw [h, dec0_pos hV, hT]
  simp [List.append_assoc]
set_option maxRecDepth 100000 in
set_option maxHeartbeats 8000000 in
theorem rtext_h (an p : Bool) (A : Option Addr) (xs : List Nat) (n c V0 : Nat) (U : ByteArray) (hU : Hid (U = if V0 = 0 then ⟨#[48]⟩ else if p = true then ⟨(45 :: dec0 V0).toArray⟩ else ⟨(dec0 V0).toArray⟩)) (hV : Hid (V0 < B ^ 8)) (w : World) (ha : Hid (Arg w A xs n c)) (h1 : Hid (decide (bigI an xs < 0) = p ∧ dig (bigI an xs).natAbs = dig V0)) :
    Calls Try.prog 49 #[.agg #[.bool an, .slice A n c]] w fun e w' => e = .returned (.string U) ∧ Plus w w' := by
  go_enter Try.func49, Try.ntmps49
  go_wp2_with fail
  refine (rgood_h h1 _ (ha.out.plus (by repeat' (first | exact Plus.refl _ | refine Plus.alloc ?_ _ | refine Plus.plus ?_ _ | refine Plus.drew ?_ | refine Plus.drewN ?_ _)))).mono ?_
  rintro e w1 ⟨A1, c1, rfl, q1, q2, q3, ⟨x1, rfl⟩⟩
  have Q3 := Lib.hid q3
  clear q1 q3
  go_wp2_with fail
  go_loopw [4, 5] (fun s4 s5 wr => TxtR V0 w s4 s5 wr ∧ BoxO wr (w.heap.size + 1 + x1.blocks.length) p A1 (dig V0).length c1) (fun s4 _ _ => 79 - strLen s4)
  case atStart =>
    have q := Q3.out
    (try simp only [plus_drew] at q)
    refine ⟨⟨V0, _, A1, c1, rfl, rfl, by simp, Nat.le_refl _, q.later (by repeat' (first | (refine Later.of_alt ?_; (repeat' (first | exact Alt.refl _ | refine Alt.grow ?_ _ | refine Alt.drewL ?_ | refine Alt.drewR ?_ | refine Alt.box ?_ (isBox.mk _ _ _ _ _) (isBox.mk _ _ _ _ _) | refine Alt.alloc ?_ _)); done) | refine Later.alloc ?_ _ | refine Later.grow ?_ _ | refine Later.drew ?_)), by repeat' (first | exact Plus.refl _ | refine Plus.alloc ?_ _ | refine Plus.plus ?_ _ | refine Plus.drew ?_ | refine Plus.drewN ?_ _)⟩, by repeat' (first | (refine BoxO.new' ?_; (simp [go_sem]; done)) | refine BoxO.alloc ?_ _ | refine BoxO.grow ?_ _ | refine BoxO.drew ?_)⟩
  case round =>
    obtain ⟨⟨V, S, A2, c2, rfl, rfl, hd, hle, hL, hP⟩, hB⟩ := hrel
    have hVB : V < B ^ 8 := Nat.lt_of_le_of_lt hle hV.out
    have hsz : S.size ≤ 78 := by
      have h9 := dec_len78' hV.out
      rw [hd, List.length_append] at h9
      have : S.data.toList.length = S.size := rfl
      omega
    have HB := Lib.hid hB
    by_cases hz : V = 0
    · subst hz
      have hd0 : dec0 V0 = S.data.toList := by rw [hd, dec0_zero, List.nil_append]
      have HD := Lib.hid hd0
      have HP := Lib.hid hP
      obtain ⟨k0, k1, k2, k3⟩ := hB.cells
      haveI : Old (w.heap.size + 1 + x1.blocks.length) wr := ⟨hB.lt⟩
      rw [show (dig 0).length = 0 by rw [dig_zero]; rfl]
      clear hd hle hL hP hB hd0 hVB
      by_cases hv0 : V0 = 0
      · have hS : S = ByteArray.empty := by
          have e := HD.out
          rw [hv0] at e
          cases S with
          | mk d =>
            have : d.toList = [] := e.symm
            have : d = #[] := Array.toList_eq_nil_iff.1 this
            subst this
            rfl
        subst hS
        have HU : Hid (U = ⟨#[48]⟩) := Lib.hid (by rw [hU.out, if_pos hv0])
        clear hv0
        go_wp2_with fail
        go_ret
        exact ⟨by rw [HU.out]; rfl, HP.out⟩
      · have hSne : S ≠ ByteArray.empty := fun e => by
          have e2 := HD.out
          rw [e] at e2
          unfold dec0 at e2
          rw [if_neg hv0] at e2
          exact dec_ne_nil _ e2
        have hb1 : S.toList.isEmpty = false := by
          rw [ByteArray.toList_eq]
          cases hh : S.data.toList with
          | nil => exact (hSne (bytes_inj' (by rw [hh]; rfl))).elim
          | cons _ _ => rfl
        have HU := hU.out
        rw [if_neg hv0] at HU
        have HUU := Lib.hid HU
        clear hv0 HU
        cases p
        · go_wp2_with fail
          go_ret
          exact ⟨by rw [HUU.out, if_neg (by decide), HD.out]; rfl, HP.out⟩
        · go_wp2_with fail
          go_ret
          exact ⟨by rw [show U = (⟨#[45]⟩ : ByteArray) ++ S from (by have e := HUU.out; simp only [if_true] at e; rw [e, HD.out]; exact bytes_inj' (by simp))]; rfl, HP.out⟩
    · have hne : ¬ ((dig V).length : Int) ≤ 0 := by have := dig_ne hz; omega
      have hne2 : (0 : Int) < ((dig V).length : Int) := by omega
      have hL10 := rdivide_n A2 (some ⟨wr.heap.size, 0, none⟩) (dig V) [10] _ _ (dig V).length c2 1 1 (Lib.hid (by rw [val_dig, val_ten]; exact ⟨rfl, rfl⟩)) (Lib.hid (by rw [val_ten]; decide)) (wr.alloc (.cells #[.int .u32 10] 53)) (hL.alloc _) (Lim.lit10 wr _ rfl) rfl rfl (by have := dig_len_le hVB; omega) (by decide)
      have HX := Lib.hid hL10
      obtain ⟨T, hT⟩ : ∃ T : ByteArray, T = ⟨#[UInt8.ofNat (48 + V % 10)]⟩ := ⟨_, rfl⟩
      have hTs : T.size = 1 := by rw [hT]; rfl
      have HS := Lib.hid (txt_step hd hz hT)
      obtain ⟨dg, edg⟩ : ∃ dg, V % 10 = dg := ⟨_, rfl⟩
      have hdg : dg < 10 := by rw [← edg]; exact Nat.mod_lt _ (by decide)
      have hcv := fun v => conv_one0 (48 + dg) (by omega) v
      rw [← edg, ← hT, edg, show ((48 + dg : Nat) : Int) = 48 + (dg : Int) by omega] at hcv
      have HCV := Lib.hid hcv
      have hlim : lim (dig (V % 10)) 0 = dg := by rw [lim_dig0, edg]; exact Nat.mod_eq_of_lt (by have := B_eq; omega)
      have HLM := Lib.hid hlim
      have hdi : (dg : Int) < 10 := by omega
      have HP := Lib.hid hP
      have HQ := Lib.hid hle
      clear hd hle hL hP hB hT hL10 edg hcv hlim hdg
      go_wp2_with fail
      refine HX.out.mono ?_
      rintro e w1 ⟨A3, C3, c3, d3, rfl, p1, p2, p3, p4, p5, p6, ⟨x3, rfl⟩⟩
      have HQ5 := Lib.hid p5
      have HR6 := Lib.hid p6
      have hc := HCV.out (plus (wr.alloc (.cells #[.int .u32 10] 53)) x3)
      simp only [size_plus, World.size_alloc] at hc
      clear HX p1 p2 p3 p4 p5 p6
      go_wp2_with (go_at_call 76; (with_reducible refine (rword_c C3 (dig (V % 10)) (dig (V % 10)).length d3 0 0 _ HR6.out rfl rfl).mono ?_); rintro e w1 ⟨rfl, rfl⟩; rw [HLM.out])
      go_roundw
      case rel =>
        refine ⟨⟨V / 10, _, A3, c3, rfl, rfl, HS.out, Nat.le_trans (Nat.div_le_self _ _) HQ.out, HQ5.out.plus (by repeat' (first | exact Plus.refl _ | refine Plus.alloc ?_ _ | refine Plus.plus ?_ _ | refine Plus.drew ?_ | refine Plus.drewN ?_ _)), HP.out.trans (by repeat' (first | exact Plus.refl _ | refine Plus.alloc ?_ _ | refine Plus.plus ?_ _ | refine Plus.drew ?_ | refine Plus.drewN ?_ _))⟩, ?_⟩
        exact HB.out.plus' (by repeat' (first | exact Plus.refl _ | refine Plus.alloc ?_ _ | refine Plus.plus ?_ _ | refine Plus.drew ?_ | refine Plus.drewN ?_ _))
      case measure =>
        simp only [strLen]
        have : (T ++ S).size = T.size + S.size := ByteArray.size_append
        omega

theorem rtext_n {an : Bool} {A : Option Addr} {xs : List Nat} {n c : Nat} {a : Int} (hA : Hid (bigI an xs = a)) {T : ByteArray} (hr : Hid ((⟨(txt a).toArray⟩ : ByteArray) = T)) (w : World) (ha : Arg w A xs n c) : Calls Try.prog 49 #[.agg #[.bool an, .slice A n c]] w fun e w' => e = .returned (.string T) ∧ Plus w w' := by
  have hab : (bigI an xs).natAbs < B ^ 8 := bigI_abs ha.lim.1
  refine rtext_h an (decide (bigI an xs < 0)) A xs n c (bigI an xs).natAbs T (Lib.hid ?_) (Lib.hid hab) w (Lib.hid ha) (Lib.hid ⟨rfl, rfl⟩)
  rw [← hr.out, hA.out]
  unfold txt dec0
  by_cases h0 : a.natAbs = 0
  · rw [if_pos h0, if_neg (by omega), h0, dec_small (by decide)]
    rfl
  · rw [if_neg h0, if_neg h0]
    by_cases hn : a < 0
    · rw [if_pos hn, if_pos (decide_eq_true hn)]
    · rw [if_neg hn, if_neg (by simpa using hn)]
end Go.Proofs.Ythaokkmbghgopaa
