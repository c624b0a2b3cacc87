/- renref2.Text. -/
import Derived.Deep.LoopGhost
import Derived.Deep.AppendLies
import Derived.Test.YtakahpbondaidaaGreatDoorZQ
import Derived.Test.YtakahpbondaidaaGreatDoorZE
namespace Go.Proofs.YtakahpbondaidaaGreatDoor.Bg
open Go.RowKit

theorem dec_len78' {n : Nat} (h : n < B ^ 8) : (dec0 n).length ≤ 78 := by
  have := TxtRel.len (m := 0) (bs := (dec0 n).reverse) (by rw [dec0_zero]; simp) h
  simpa using this
theorem bytes_inj' {a b : ByteArray} (h : a.data.toList = b.data.toList) : a = b := by
  cases a
  cases b
  congr 1
  exact Array.toList_inj.1 h
def strLen : Value → Nat | .string s => s.size | _ => 0
def TxtR (V0 : Nat) (w : World) (s4 s5 : Value) (wr : World) : Prop :=
  ∃ (V : Nat) (S : ByteArray) (A : Option Addr) (c : Nat), s4 = .string S ∧ s5 = .slice A (dig V).length c ∧ dec0 V0 = dec0 V ++ S.data.toList ∧ V ≤ V0 ∧ Lim wr A (dig V) ∧ Plus w wr
theorem lim_dig0 (v : Nat) : lim (dig v) 0 = v % B := by
  have h := low_mod (okL_dig v) 1
  rw [low_succ, low_zero, val_dig] at h
  simpa using h
theorem val_ten : val [10] = 10 := by simp [val]
theorem Lim.lit10 (w : World) (g : Nat) (hg : g = w.heap.size) : Lim (w.alloc (.cells #[.int .u32 10] 69)) (some ⟨g, 0, none⟩) [10] := by
  subst hg
  refine ⟨okL.cons (by decide) okL_nil, fun _ => ⟨_, rfl, by simp, fun j hj => ?_⟩⟩
  have : j = 0 := by simp at hj; omega
  subst this
  rw [zero_add_addr, World.cell?_alloc_at _ _ _ _ rfl]
  rfl
theorem txt_step {V0 V : Nat} {S T : ByteArray} (h : dec0 V0 = dec0 V ++ S.data.toList) (hV : V ≠ 0) (hT : T = ⟨#[UInt8.ofNat (48 + V % 10)]⟩) : dec0 V0 = dec0 (V / 10) ++ (T ++ S).data.toList := by
  rw [h, dec0_pos hV, hT]
  simp [List.append_assoc]
set_option maxRecDepth 100000 in
set_option maxHeartbeats 8000000 in
theorem rtext_h (an p : Bool) (A : Option Addr) (xs : List Nat) (n c V0 : Nat) (U : ByteArray) (hU : Hid (U = if V0 = 0 then ⟨#[48]⟩ else if p = true then ⟨(45 :: dec0 V0).toArray⟩ else ⟨(dec0 V0).toArray⟩)) (hV : Hid (V0 < B ^ 8)) (w : World) (ha : Hid (Arg w A xs n c)) (h1 : Hid (decide (bigI an xs < 0) = p ∧ dig (bigI an xs).natAbs = dig V0)) :
    Calls Tryz.prog 63 #[.agg #[.bool an, .slice A n c]] w fun e w' => e = .returned (.string U) ∧ Plus w w' := by
  go_enter Tryz.func63, Tryz.ntmps63
  go_wp2_with fail
  refine (rgood_h h1 _ (ha.out.plus (by repeat' (first | exact Plus.refl _ | refine Plus.alloc ?_ _ | refine Plus.plus ?_ _ | refine Plus.drew ?_ | refine Plus.drewN ?_ _)))).mono ?_
  rintro e w1 ⟨A1, c1, rfl, q1, q2, q3, ⟨x1, rfl⟩⟩
  have Q3 := Lib.hid q3
  clear q1 q3
  go_wp2_with fail
  go_loopw [4, 5] (fun s4 s5 wr => TxtR V0 w s4 s5 wr ∧ BoxO wr (w.heap.size + 1 + x1.blocks.length) p A1 (dig V0).length c1) (fun s4 _ _ => 79 - strLen s4)
  case atStart =>
    have q := Q3.out
    (try simp only [plus_drew] at q)
    refine ⟨⟨V0, _, A1, c1, rfl, rfl, by simp, Nat.le_refl _, q.later (by repeat' (first | (refine Later.of_alt ?_; (repeat' (first | exact Alt.refl _ | refine Alt.grow ?_ _ | refine Alt.drewL ?_ | refine Alt.drewR ?_ | refine Alt.box ?_ (isBox.mk _ _ _ _ _) (isBox.mk _ _ _ _ _) | refine Alt.alloc ?_ _)); done) | refine Later.alloc ?_ _ | refine Later.grow ?_ _ | refine Later.drew ?_)), by repeat' (first | exact Plus.refl _ | refine Plus.alloc ?_ _ | refine Plus.plus ?_ _ | refine Plus.drew ?_ | refine Plus.drewN ?_ _)⟩, by repeat' (first | (refine BoxO.new' ?_; (simp [go_sem]; done)) | refine BoxO.alloc ?_ _ | refine BoxO.grow ?_ _ | refine BoxO.drew ?_)⟩
  case round =>
    obtain ⟨⟨V, S, A2, c2, rfl, rfl, hd, hle, hL, hP⟩, hB⟩ := hrel
    have hVB : V < B ^ 8 := Nat.lt_of_le_of_lt hle hV.out
    have hsz : S.size ≤ 78 := by
      have h9 := dec_len78' hV.out
      rw [hd, List.length_append] at h9
      have : S.data.toList.length = S.size := rfl
      omega
    have HB := Lib.hid hB
    by_cases hz : V = 0
    · subst hz
      have hd0 : dec0 V0 = S.data.toList := by rw [hd, dec0_zero, List.nil_append]
      have HD := Lib.hid hd0
      have HP := Lib.hid hP
      obtain ⟨k0, k1, k2, k3⟩ := hB.cells
      haveI : Old (w.heap.size + 1 + x1.blocks.length) wr := ⟨hB.lt⟩
      rw [show (dig 0).length = 0 by rw [dig_zero]; rfl]
      clear hd hle hL hP hB hd0 hVB
      by_cases hv0 : V0 = 0
      · have hS : S = ByteArray.empty := by
          have e := HD.out
          rw [hv0] at e
          cases S with
          | mk d =>
            have : d.toList = [] := e.symm
            have : d = #[] := Array.toList_eq_nil_iff.1 this
            subst this
            rfl
        subst hS
        have HU : Hid (U = ⟨#[48]⟩) := Lib.hid (by rw [hU.out, if_pos hv0])
        clear hv0
        go_wp2_with fail
        go_ret
        exact ⟨by rw [HU.out]; rfl, HP.out⟩
      · have hSne : S ≠ ByteArray.empty := fun e => by
          have e2 := HD.out
          rw [e] at e2
          unfold dec0 at e2
          rw [if_neg hv0] at e2
          exact dec_ne_nil _ e2
        have hb1 : S.toList.isEmpty = false := by
          rw [ByteArray.toList_eq]
          cases hh : S.data.toList with
          | nil => exact (hSne (bytes_inj' (by rw [hh]; rfl))).elim
          | cons _ _ => rfl
        have HU := hU.out
        rw [if_neg hv0] at HU
        have HUU := Lib.hid HU
        clear hv0 HU
        cases p
        · go_wp2_with fail
          go_ret
          exact ⟨by rw [HUU.out, if_neg (by decide), HD.out]; rfl, HP.out⟩
        · go_wp2_with fail
          go_ret
          exact ⟨by rw [show U = (⟨#[45]⟩ : ByteArray) ++ S from (by have e := HUU.out; simp only [if_true] at e; rw [e, HD.out]; exact bytes_inj' (by simp))]; rfl, HP.out⟩
    · have hne : ¬ ((dig V).length : Int) ≤ 0 := by have := dig_ne hz; omega
      have hne2 : (0 : Int) < ((dig V).length : Int) := by omega
      have hL10 := rdivide_n A2 (some ⟨wr.heap.size, 0, none⟩) (dig V) [10] _ _ (dig V).length c2 1 1 (Lib.hid (by rw [val_dig, val_ten]; exact ⟨rfl, rfl⟩)) (Lib.hid (by rw [val_ten]; decide)) (wr.alloc (.cells #[.int .u32 10] 69)) (hL.alloc _) (Lim.lit10 wr _ rfl) rfl rfl (by have := dig_len_le hVB; omega) (by decide)
      have HX := Lib.hid hL10
      obtain ⟨T, hT⟩ : ∃ T : ByteArray, T = ⟨#[UInt8.ofNat (48 + V % 10)]⟩ := ⟨_, rfl⟩
      have hTs : T.size = 1 := by rw [hT]; rfl
      have HS := Lib.hid (txt_step hd hz hT)
      obtain ⟨dg, edg⟩ : ∃ dg, V % 10 = dg := ⟨_, rfl⟩
      have hdg : dg < 10 := by rw [← edg]; exact Nat.mod_lt _ (by decide)
      have hcv := fun v => conv_one0 (48 + dg) (by omega) v
      rw [← edg, ← hT, edg, show ((48 + dg : Nat) : Int) = 48 + (dg : Int) by omega] at hcv
      have HCV := Lib.hid hcv
      have hlim : lim (dig (V % 10)) 0 = dg := by rw [lim_dig0, edg]; exact Nat.mod_eq_of_lt (by have := B_eq; omega)
      have HLM := Lib.hid hlim
      have hdi : (dg : Int) < 10 := by omega
      have HP := Lib.hid hP
      have HQ := Lib.hid hle
      clear hd hle hL hP hB hT hL10 edg hcv hlim hdg
      go_wp2_with fail
      refine HX.out.mono ?_
      rintro e w1 ⟨A3, C3, c3, d3, rfl, p1, p2, p3, p4, p5, p6, ⟨x3, rfl⟩⟩
      have HQ5 := Lib.hid p5
      have HR6 := Lib.hid p6
      have hc := HCV.out (plus (wr.alloc (.cells #[.int .u32 10] 69)) x3)
      simp only [size_plus, World.size_alloc] at hc
      clear HX p1 p2 p3 p4 p5 p6
      go_wp2_with (go_at_call 126; (with_reducible refine (rword_c C3 (dig (V % 10)) (dig (V % 10)).length d3 0 0 _ HR6.out rfl rfl).mono ?_); rintro e w1 ⟨rfl, rfl⟩; rw [HLM.out])
      go_roundw
      case rel =>
        refine ⟨⟨V / 10, _, A3, c3, rfl, rfl, HS.out, Nat.le_trans (Nat.div_le_self _ _) HQ.out, HQ5.out.plus (by repeat' (first | exact Plus.refl _ | refine Plus.alloc ?_ _ | refine Plus.plus ?_ _ | refine Plus.drew ?_ | refine Plus.drewN ?_ _)), HP.out.trans (by repeat' (first | exact Plus.refl _ | refine Plus.alloc ?_ _ | refine Plus.plus ?_ _ | refine Plus.drew ?_ | refine Plus.drewN ?_ _))⟩, ?_⟩
        exact HB.out.plus' (by repeat' (first | exact Plus.refl _ | refine Plus.alloc ?_ _ | refine Plus.plus ?_ _ | refine Plus.drew ?_ | refine Plus.drewN ?_ _))
      case measure =>
        simp only [strLen]
        have : (T ++ S).size = T.size + S.size := ByteArray.size_append
        omega

theorem rtext_n {an : Bool} {A : Option Addr} {xs : List Nat} {n c : Nat} {a : Int} (hA : Hid (bigI an xs = a)) {T : ByteArray} (hr : Hid ((⟨(txt a).toArray⟩ : ByteArray) = T)) (w : World) (ha : Arg w A xs n c) : Calls Tryz.prog 63 #[.agg #[.bool an, .slice A n c]] w fun e w' => e = .returned (.string T) ∧ Plus w w' := by
  have hab : (bigI an xs).natAbs < B ^ 8 := bigI_abs ha.lim.1
  refine rtext_h an (decide (bigI an xs < 0)) A xs n c (bigI an xs).natAbs T (Lib.hid ?_) (Lib.hid hab) w (Lib.hid ha) (Lib.hid ⟨rfl, rfl⟩)
  rw [← hr.out, hA.out]
  unfold txt dec0
  by_cases h0 : a.natAbs = 0
  · rw [if_pos h0, if_neg (by omega), h0, dec_small (by decide)]
    rfl
  · rw [if_neg h0, if_neg h0]
    by_cases hn : a < 0
    · rw [if_pos hn, if_pos (decide_eq_true hn)]
    · rw [if_neg hn, if_neg (by simpa using hn)]

end Go.Proofs.YtakahpbondaidaaGreatDoor.Bg
namespace Go.Proofs.YtakahpbondaidaaGreatDoor.Bg
open Go.RowKit

/-- What Parse gives. -/
def PRes (l : List UInt8) (w : World) (e : Ending) (w' : World) : Prop :=
  match rd l with
  | .form => e = .returned (.tuple #[.agg #[.bool false, .slice none 0 0], .int .i64 2]) ∧ Plus w w'
  | .long => e = .returned (.tuple #[.agg #[.bool false, .slice none 0 0], .int .i64 3]) ∧ Plus w w'
  | .is z => ∃ (A1 : Option Addr) (c1 : Nat), e = .returned (.tuple #[.agg #[.bool (decide (z < 0)), .slice A1 (dig z.natAbs).length c1], .int .i64 0]) ∧ (dig z.natAbs).length ≤ c1 ∧ c1 ≤ 9223372036854775807 ∧ Lim w' A1 (dig z.natAbs) ∧ Plus w w'
theorem PRes.form {l : List UInt8} {w w' : World} {e : Ending} (h : rd l = .form) (he : e = .returned (.tuple #[.agg #[.bool false, .slice none 0 0], .int .i64 2]) ∧ Plus w w') : PRes l w e w' := by
  unfold PRes
  rw [h]
  exact he
theorem PRes.long {l : List UInt8} {w w' : World} {e : Ending} (h : rd l = .long) (he : e = .returned (.tuple #[.agg #[.bool false, .slice none 0 0], .int .i64 3]) ∧ Plus w w') : PRes l w e w' := by
  unfold PRes
  rw [h]
  exact he
theorem PRes.is {l : List UInt8} {w w' : World} {e : Ending} {z : Int} (h : rd l = .is z) (he : ∃ (A1 : Option Addr) (c1 : Nat), e = .returned (.tuple #[.agg #[.bool (decide (z < 0)), .slice A1 (dig z.natAbs).length c1], .int .i64 0]) ∧ (dig z.natAbs).length ≤ c1 ∧ c1 ≤ 9223372036854775807 ∧ Lim w' A1 (dig z.natAbs) ∧ Plus w w') : PRes l w e w' := by
  unfold PRes
  rw [h]
  exact he
def rdD (neg : Bool) (d : List UInt8) : Rd := if isCnt d = false ∨ (neg = true ∧ d = [48]) then .form else if B ^ 8 ≤ num d then .long else .is (if neg then -(num d : Int) else num d)
theorem rd_is (l : List UInt8) : rd l = rdD (l.head? == some 45) (if l.head? == some 45 then l.tail else l) := rfl
theorem rdD_bad {neg : Bool} {d : List UInt8} (h : d.all isD = false) : rdD neg d = .form := by
  unfold rdD
  rw [if_pos (.inl (by unfold isCnt; rw [h, Bool.and_false]))]
theorem rdD_nil (neg : Bool) : rdD neg [] = .form := rfl
theorem rdD_nought {neg : Bool} {d : List UInt8} (h : d.head? = some 48) (h1 : 1 < d.length ∨ neg = true) : rdD neg d = .form := by
  unfold rdD
  rcases d with _ | ⟨c, d⟩
  · rfl
  simp at h
  subst h
  by_cases hd : d = []
  · subst hd
    rw [if_pos (.inr ⟨by simpa using h1, rfl⟩)]
  · refine if_pos (.inl ?_)
    unfold isCnt
    cases hq : ((48 :: d : List UInt8) == [48]) with
    | false => simp
    | true =>
      rw [beq_iff_eq] at hq
      injection hq with _ hq
      exact (hd hq).elim
/-- Digits, the first no nought but alone. -/
def Cnt (neg : Bool) (d : List UInt8) : Prop := d ≠ [] ∧ (d.head? = some 48 → d.length = 1 ∧ neg = false)
theorem rdD_good {neg : Bool} {d : List UInt8} (h : Cnt neg d) (ha : d.all isD = true) : rdD neg d = if B ^ 8 ≤ num d then .long else .is (if neg then -(num d : Int) else num d) := by
  obtain ⟨h1, h2⟩ := h
  unfold rdD
  rw [if_neg]
  rintro (h3 | ⟨h3, h4⟩)
  · rcases d with _ | ⟨c, d⟩
    · exact h1 rfl
    · unfold isCnt at h3
      rw [ha] at h3
      by_cases hc : c = 48
      · subst hc
        obtain ⟨q, _⟩ := h2 rfl
        simp at q
        subst q
        revert h3
        decide
      · simp [hc] at h3
  · subst h4
    have := (h2 rfl).2
    rw [this] at h3
    cases h3
theorem all_next {d : List UInt8} {k : Nat} (hk : k < d.length) : (d.take (k + 1)).all isD = ((d.take k).all isD && isD d[k]) := by
  rw [List.take_succ_eq_append_getElem hk, List.all_append]
  simp
theorem num_next {d : List UInt8} {k : Nat} (hk : k < d.length) : num (d.take (k + 1)) = 10 * num (d.take k) + (d[k].toNat - 48) := by
  rw [List.take_succ_eq_append_getElem hk, num_snoc]
theorem all_false {d : List UInt8} {k : Nat} (hk : k < d.length) (h : isD d[k] = false) : d.all isD = false := by
  rw [List.all_eq_false]
  exact ⟨d[k], List.getElem_mem hk, by rw [h]; decide⟩
theorem all_of {d : List UInt8} {k : Nat} (hk : k < d.length) (h : d.all isD = true) : isD d[k] = true := List.all_eq_true.1 h _ (List.getElem_mem hk)
theorem Lim.litx (w : World) (x g : Nat) (hx : x < B) (hg : g = w.heap.size) : Lim (w.alloc (.cells #[.int .u32 (x : Int)] 69)) (some ⟨g, 0, none⟩) [x] := by
  subst hg
  refine ⟨okL.cons hx okL_nil, fun _ => ⟨_, rfl, by simp, fun j hj => ?_⟩⟩
  have : j = 0 := by simp at hj; omega
  subst this
  rw [zero_add_addr, World.cell?_alloc_at _ _ _ _ rfl]
  rfl
theorem rtrim_n (A : Option Addr) (xs us : List Nat) (n c : Nat) (hv : Hid (dig (val xs) = us)) (w : World) (h : Lim w A xs) (hn : n = xs.length) (hl : xs.length ≤ c) (hc : c ≤ 9223372036854775807) (hs : xs.length ≤ 2097152) :
    Calls Tryz.prog 199 #[.slice A n c] w fun e w' => ∃ (A1 : Option Addr) (c1 : Nat), e = .returned (.slice A1 us.length c1) ∧ us.length ≤ c1 ∧ c1 ≤ 9223372036854775807 ∧ Lim w' A1 us ∧ Plus w w' := by
  have h := rtrim_c A xs n c w h hn hl hc hs
  obtain rfl := hv.out
  exact h.mono fun _ _ ⟨A1, c1, h1, h2, h3, h4, h5, _⟩ => ⟨A1, c1, h1, h2, h3, h4, h5⟩
theorem len1 (a : Nat) : 1 = [a].length := rfl
theorem le1 (a : Nat) : [a].length ≤ 1 := Nat.le_refl _
theorem le1k (a : Nat) : [a].length ≤ 1024 := by show 1 ≤ 1024; decide
theorem le1m (a : Nat) : [a].length ≤ 2097152 := by show 1 ≤ 2097152; decide
theorem le1c : 1 ≤ 9223372036854775807 := by decide
def PRel (D : List UInt8) (w : World) (s7 s8 : Value) (wr : World) : Prop :=
  ∃ (k V : Nat) (A : Option Addr) (c : Nat), k ≤ D.length ∧ s8 = .int .i64 k ∧ s7 = .slice A (dig V).length c ∧ V = num (D.take k) ∧ V < B ^ 8 ∧ (dig V).length ≤ c ∧ c ≤ 9223372036854775807 ∧ Lim wr A (dig V) ∧ BoxO wr w.heap.size false none 0 0 ∧ Plus w wr
theorem form_end {s : ByteArray} {neg : Bool} {d : List UInt8} {w w' : World} {e : Ending} (hr : Hid (rd s.data.toList = rdD neg d)) (h : rdD neg d = .form) (he : e = .returned (.tuple #[.agg #[.bool false, .slice none 0 0], .int .i64 2]) ∧ Plus w w') : PRes s.data.toList w e w' := PRes.form (hr.out.trans h) he

set_option maxRecDepth 100000 in
set_option maxHeartbeats 16000000 in
theorem rparse_a (s d : ByteArray) (neg : Bool) (hs : s.size ≤ 5000) (hneg : neg = false) (hd : d = s) (h0 : 0 < s.size) (h2 : ((s[0].toNat : Int) == 45) = false) (h3 : ((s[0].toNat : Int) == 48) = false) (h4 : s.toList.isEmpty = false) (HCN : Hid (Cnt neg d.data.toList)) (HRD : Hid (rd s.data.toList = rdD neg d.data.toList)) (w : World) :
    Calls Tryz.prog 114 #[.string s] w (PRes s.data.toList w) := by
  subst hneg hd
  go_enter Tryz.func114, Tryz.ntmps114
  go_upto_region 8 with fail
  go_loop [6] (fun s6 => ∃ k : Nat, k ≤ d.size ∧ s6 = .int .i64 k ∧ (d.data.toList.take k).all isD = true) (fun s6 => ((d.size : Int) - intOf s6).toNat)
  case atStart => exact ⟨0, Nat.zero_le _, rfl, rfl⟩
  case round =>
    obtain ⟨k, hk, rfl, hall⟩ := hrel
    by_cases hlt : k < d.size
    · have hki : (k : Int) < (d.size : Int) := by omega
      have HALL := Lib.hid hall
      clear hall
      have HNX := Lib.hid (all_next (d := d.data.toList) (k := k) hlt)
      have HFA := Lib.hid (fun h : isD d[k] = false => all_false (d := d.data.toList) (k := k) hlt h)
      by_cases hlo : (d[k].toNat : Int) < 48
      · have hb : isD d[k] = false := by unfold isD; rw [decide_eq_false (by omega)]; rfl
        have HF := Lib.hid (HFA.out hb)
        clear hb
        go_wp2_with fail
        go_returns
        exact form_end HRD (rdD_bad HF.out) ⟨rfl, by repeat' (first | exact Plus.refl _ | refine Plus.alloc ?_ _ | refine Plus.plus ?_ _ | refine Plus.drew ?_ | refine Plus.drewN ?_ _)⟩
      · by_cases hhi : (57 : Int) < (d[k].toNat : Int)
        · have hb : isD d[k] = false := by unfold isD; rw [decide_eq_false (p := d[k].toNat ≤ 57) (by omega), Bool.and_false]
          have HF := Lib.hid (HFA.out hb)
          clear hb
          go_wp2_with fail
          go_returns
          exact form_end HRD (rdD_bad HF.out) ⟨rfl, by repeat' (first | exact Plus.refl _ | refine Plus.alloc ?_ _ | refine Plus.plus ?_ _ | refine Plus.drew ?_ | refine Plus.drewN ?_ _)⟩
        · have hb : isD d[k] = true := by unfold isD; rw [decide_eq_true (by omega), decide_eq_true (by omega)]; rfl
          have HG := Lib.hid hb
          clear hb
          go_wp2_with fail
          go_round
          case rel => exact ⟨k + 1, hlt, by rw [show ((k + 1 : Nat) : Int) = (k : Int) + 1 by omega], by rw [HNX.out, HALL.out]; exact HG.out⟩
          case measure => simp [intOf]; omega
    · obtain rfl : k = d.size := by omega
      have hA : d.data.toList.all isD = true := by
        rw [show d.data.toList.take d.size = d.data.toList from List.take_of_length_le (Nat.le_refl _)] at hall
        exact hall
      have HA := Lib.hid hA
      have HGD := Lib.hid (rdD_good HCN.out hA)
      clear hall hA
      go_upto_region 14 with fail
      go_loopw [7, 8] (PRel d.data.toList w) (fun _ s8 _ => ((d.size : Int) - intOf s8).toNat)
      case atStart => exact ⟨0, 0, none, 0, Nat.zero_le _, rfl, by rw [dig_zero]; rfl, rfl, Nat.pow_pos B_pos, by rw [dig_zero]; exact Nat.le_refl _, by decide, by rw [dig_zero]; exact Lim.nil, BoxO.new' rfl, by repeat' (first | exact Plus.refl _ | refine Plus.alloc ?_ _ | refine Plus.plus ?_ _ | refine Plus.drew ?_ | refine Plus.drewN ?_ _)⟩
      case round =>
        obtain ⟨k, V, A, c, hk, rfl, rfl, hV, hVB, hc1, hc2, hL, hB, hP⟩ := hrel
        have hk' : k ≤ d.size := hk
        have HL := Lib.hid hL
        have HB := Lib.hid hB
        have HP := Lib.hid hP
        have HLN : Hid ((dig V).length ≤ 8) := Lib.hid (dig_len_le hVB)
        have HVB := Lib.hid hVB
        obtain ⟨k0, k1, k2, k3⟩ := hB.cells
        haveI : Old w.heap.size wr := ⟨hB.lt⟩
        haveI : HasCell wr w.heap.size 0 := ⟨_, k0⟩
        haveI : HasCell wr w.heap.size 1 := ⟨_, k1⟩
        clear hL hB hP hVB
        by_cases hlt : k < d.size
        · have hki : (k : Int) < (d.size : Int) := by omega
          have hdg := all_of (d := d.data.toList) (k := k) hlt HA.out
          have HNM := Lib.hid (num_next (d := d.data.toList) (k := k) hlt)
          have hdd : 48 ≤ d[k].toNat ∧ d[k].toNat ≤ 57 := by
            have e : isD d[k] = true := hdg
            unfold isD at e
            simpa using e
          obtain ⟨x, ex⟩ : ∃ x, d[k].toNat - 48 = x := ⟨_, rfl⟩
          have hx9 : x ≤ 9 := by omega
          have HEX : Hid (d.data.toList[k].toNat - 48 = x) := Lib.hid ex
          have hw8 : IntKind.u8.wrap ((d[k].toNat : Int) - 48) = (x : Int) := by rw [show (d[k].toNat : Int) - 48 = (x : Int) by omega]; exact IntWalk.u8_in _ (by omega)
          have hsub : (d[k].toNat : Int) - 48 = (x : Int) := by omega
          have hx0 : (x : Int) ≤ 9 := by omega
          have hx1 : IntKind.u8.wrap (x : Int) = (x : Int) := IntWalk.u8_in _ (by omega)
          have hx2 : IntKind.u32.wrap (x : Int) = (x : Int) := IntWalk.u32_in _ (by omega)
          have HXB : Hid (x < B) := Lib.hid (by have := B_eq; omega)
          have HV := Lib.hid hV
          obtain ⟨ts, ets⟩ : ∃ ts, dig (val (dig V) * val [10]) = ts := ⟨_, rfl⟩
          obtain ⟨tx, etx⟩ : ∃ tx, dig (val [x]) = tx := ⟨_, rfl⟩
          obtain ⟨us, eus⟩ : ∃ us, dig (val ts + val tx) = us := ⟨_, rfl⟩
          have hvx : val [x] = x := by simp [val]
          have hVN : val ts + val tx = 10 * V + x := by rw [← ets, ← etx, val_dig, val_dig, val_dig, val_ten, hvx]; omega
          have hT9 : ts.length ≤ 9 := by
            rw [← ets, val_dig, val_ten]
            have h9 : V * 10 < B ^ 9 := by
              rw [Nat.pow_succ]
              exact Nat.mul_lt_mul_of_lt_of_le HVB.out (by decide) (by decide)
            exact dig_len_le h9
          have hX9 : tx.length ≤ 1 := by
            rw [← etx, hvx]
            exact dig_len_le (show x < B ^ 1 by rw [Nat.pow_one]; exact HXB.out)
          rw [hVN] at eus
          have ht := Lib.hid ets
          have htx := Lib.hid etx
          have hus := Lib.hid (show dig (val ts + val tx) = us by rw [hVN]; exact eus)
          have HUS := Lib.hid eus
          have HTL := Lib.hid hT9
          have HXL := Lib.hid hX9
          have HC1 := Lib.hid hc1
          have HC2 := Lib.hid hc2
          have HNV : Hid (num (d.data.toList.take (k + 1)) = 10 * V + x) := Lib.hid (by rw [HNM.out, HEX.out, HV.out])
          clear ets etx eus hvx hVN hT9 hX9 hdg hdd ex hV HNM HEX hc1 hc2
          go_upto_region 16 with fail
          by_cases hbig : B ^ 8 ≤ 10 * V + x
          · have hul : (8 : Int) < (us.length : Int) := by
              have : ¬ us.length ≤ 8 := by rw [← HUS.out]; exact fun q => Nat.not_lt.2 hbig (dig_long.1 q)
              omega
            have HBIG : Hid (rdD false d.data.toList = .long) := Lib.hid (by
              rw [HGD.out, if_pos]
              have h1 := num_ge (d.data.toList.take (k + 1)) (d.data.toList.drop (k + 1))
              rw [List.take_append_drop, HNV.out] at h1
              omega)
            clear hbig
            go_region_held3 (fun w' => w'.cell? ⟨w.heap.size, 0, none⟩ = some (.bool false)) (simp [go_sem, k0]) (first | (go_at_call 201; (with_reducible refine (rtimes_n _ _ (dig V) [10] ts _ _ _ _ ht _ (by first | exact HL.out | exact HL.out.plus (by repeat' (first | exact Plus.refl _ | refine Plus.alloc ?_ _ | refine Plus.plus ?_ _ | refine Plus.drew ?_ | refine Plus.drewN ?_ _)) | (have q := HL.out.plus (w' := _) (by repeat' (first | exact Plus.refl _ | refine Plus.alloc ?_ _ | refine Plus.plus ?_ _ | refine Plus.drew ?_ | refine Plus.drewN ?_ _)); exact q)) (by repeat' (first | (refine Lim.lit10 _ _ ?_; (simp [go_sem]; done)) | refine Lim.alloc ?_ _ | refine Lim.grow ?_ _ | refine Lim.drew ?_)) rfl (len1 _) (by have := HLN.out; omega) (le1k _)).mono ?_); rintro e w1 ⟨A3, c3, rfl, q1, q2, q3, ⟨x3, rfl⟩⟩; have HT := Lib.hid q3; have HT1 := Lib.hid q1; have HT2 := Lib.hid q2; clear q1 q2 q3) | (go_at_call 199; (with_reducible refine (rtrim_n _ [x] tx _ _ htx _ (by repeat' (first | (refine Lim.litx _ _ _ HXB.out ?_; (simp [go_sem]; done)) | refine Lim.alloc ?_ _ | refine Lim.grow ?_ _ | refine Lim.drew ?_)) (len1 _) (le1 _) le1c (le1m _)).mono ?_); rintro e w1 ⟨A4, c4, rfl, q1, q2, q3, ⟨x4, rfl⟩⟩; have HU := Lib.hid q3; have HU1 := Lib.hid q1; have HU2 := Lib.hid q2; clear q1 q2 q3) | (go_at_call 200; (with_reducible refine (rplus_n A3 A4 ts tx us _ _ _ _ hus _ (by have q := HT.out; (try simp only [plus_drew] at q); first | exact q | exact q.plus (by repeat' (first | exact Plus.refl _ | refine Plus.alloc ?_ _ | refine Plus.plus ?_ _ | refine Plus.drew ?_ | refine Plus.drewN ?_ _))) (by have q := HU.out; (try simp only [plus_drew] at q); first | exact q | exact q.plus (by repeat' (first | exact Plus.refl _ | refine Plus.alloc ?_ _ | refine Plus.plus ?_ _ | refine Plus.drew ?_ | refine Plus.drewN ?_ _))) rfl rfl (by have := HTL.out; omega) (by have := HXL.out; omega)).mono ?_); rintro e w1 ⟨A5, c5, rfl, q1, q2, q3, ⟨x5, rfl⟩⟩; have HN := Lib.hid q3; have HN1 := Lib.hid q1; have HN2 := Lib.hid q2; clear q1 q2 q3))
            all_goals
              go_wp2_with fail
              go_returns
              exact PRes.long (HRD.out.trans HBIG.out) ⟨rfl, by repeat' (first | exact HP.out | refine Plus.alloc ?_ _ | refine Plus.plus ?_ _ | (refine Plus.setCell ?_ (Nat.le_refl _) _) | refine Plus.drew ?_ | refine Plus.drewN ?_ _)⟩
          · have hul : ¬ (8 : Int) < (us.length : Int) := by
              have : us.length ≤ 8 := by rw [← HUS.out]; exact dig_len_le (by omega)
              omega
            have HBIG : Hid (10 * V + x < B ^ 8) := Lib.hid (by omega)
            clear hbig
            go_region_held3 (fun w' => w'.cell? ⟨w.heap.size, 0, none⟩ = some (.bool false)) (simp [go_sem, k0]) (first | (go_at_call 201; (with_reducible refine (rtimes_n _ _ (dig V) [10] ts _ _ _ _ ht _ (by first | exact HL.out | exact HL.out.plus (by repeat' (first | exact Plus.refl _ | refine Plus.alloc ?_ _ | refine Plus.plus ?_ _ | refine Plus.drew ?_ | refine Plus.drewN ?_ _)) | (have q := HL.out.plus (w' := _) (by repeat' (first | exact Plus.refl _ | refine Plus.alloc ?_ _ | refine Plus.plus ?_ _ | refine Plus.drew ?_ | refine Plus.drewN ?_ _)); exact q)) (by repeat' (first | (refine Lim.lit10 _ _ ?_; (simp [go_sem]; done)) | refine Lim.alloc ?_ _ | refine Lim.grow ?_ _ | refine Lim.drew ?_)) rfl (len1 _) (by have := HLN.out; omega) (le1k _)).mono ?_); rintro e w1 ⟨A3, c3, rfl, q1, q2, q3, ⟨x3, rfl⟩⟩; have HT := Lib.hid q3; have HT1 := Lib.hid q1; have HT2 := Lib.hid q2; clear q1 q2 q3) | (go_at_call 199; (with_reducible refine (rtrim_n _ [x] tx _ _ htx _ (by repeat' (first | (refine Lim.litx _ _ _ HXB.out ?_; (simp [go_sem]; done)) | refine Lim.alloc ?_ _ | refine Lim.grow ?_ _ | refine Lim.drew ?_)) (len1 _) (le1 _) le1c (le1m _)).mono ?_); rintro e w1 ⟨A4, c4, rfl, q1, q2, q3, ⟨x4, rfl⟩⟩; have HU := Lib.hid q3; have HU1 := Lib.hid q1; have HU2 := Lib.hid q2; clear q1 q2 q3) | (go_at_call 200; (with_reducible refine (rplus_n A3 A4 ts tx us _ _ _ _ hus _ (by have q := HT.out; (try simp only [plus_drew] at q); first | exact q | exact q.plus (by repeat' (first | exact Plus.refl _ | refine Plus.alloc ?_ _ | refine Plus.plus ?_ _ | refine Plus.drew ?_ | refine Plus.drewN ?_ _))) (by have q := HU.out; (try simp only [plus_drew] at q); first | exact q | exact q.plus (by repeat' (first | exact Plus.refl _ | refine Plus.alloc ?_ _ | refine Plus.plus ?_ _ | refine Plus.drew ?_ | refine Plus.drewN ?_ _))) rfl rfl (by have := HTL.out; omega) (by have := HXL.out; omega)).mono ?_); rintro e w1 ⟨A5, c5, rfl, q1, q2, q3, ⟨x5, rfl⟩⟩; have HN := Lib.hid q3; have HN1 := Lib.hid q1; have HN2 := Lib.hid q2; clear q1 q2 q3))
            all_goals
              go_wp2_with fail
              go_roundw
              case rel =>
                have q := HN.out
                (try simp only [plus_drew] at q)
                refine ⟨k + 1, 10 * V + x, A5, c5, hlt, by rw [show ((k + 1 : Nat) : Int) = (k : Int) + 1 by omega], by rw [HUS.out], HNV.out.symm, HBIG.out, by rw [HUS.out]; exact HN1.out, HN2.out, by rw [HUS.out]; exact q, by exact HB.out.plus' (by repeat' (first | exact Plus.refl _ | refine Plus.alloc ?_ _ | refine Plus.plus ?_ _ | refine Plus.drew ?_ | refine Plus.drewN ?_ _)), by repeat' (first | exact HP.out | refine Plus.alloc ?_ _ | refine Plus.plus ?_ _ | (refine Plus.setCell ?_ (Nat.le_refl _) _) | refine Plus.drew ?_ | refine Plus.drewN ?_ _)⟩
              case measure => simp [intOf]; omega
        · obtain rfl : k = d.size := by omega
          have hV2 : V = num d.data.toList := by rw [hV, show d.data.toList.take d.size = d.data.toList from List.take_of_length_le (Nat.le_refl _)]
          obtain ⟨z, ez⟩ : ∃ z : Int, (if false then -(num d.data.toList : Int) else num d.data.toList) = z := ⟨_, rfl⟩
          have hrd : rdD false d.data.toList = .is z := by rw [HGD.out, if_neg (by rw [← hV2]; exact Nat.not_le.2 HVB.out), ← ez]; (try rfl)
          have HRZ := Lib.hid (HRD.out.trans hrd)
          have hz1 : Hid (sgn false (val (dig V)) = z) := Lib.hid (by rw [val_dig, ← ez, ← hV2]; rfl)
          have hz2 : Hid (decide (z < 0) = decide (z < 0) ∧ dig z.natAbs = dig z.natAbs) := Lib.hid ⟨rfl, rfl⟩
          have HC1 := Lib.hid hc1
          have HC2 := Lib.hid hc2
          clear hV hV2 ez hrd hc1 hc2
          go_wp2_with (go_at_call 112; (with_reducible refine (rmade_n false (decide (z < 0)) A (dig V) (dig z.natAbs) _ c z hz1 hz2 _ (by first | exact HL.out | exact HL.out.plus (by repeat' (first | exact Plus.refl _ | refine Plus.alloc ?_ _ | refine Plus.plus ?_ _ | refine Plus.drew ?_ | refine Plus.drewN ?_ _)) | (have q := HL.out.plus (w' := _) (by repeat' (first | exact Plus.refl _ | refine Plus.alloc ?_ _ | refine Plus.plus ?_ _ | refine Plus.drew ?_ | refine Plus.drewN ?_ _)); exact q)) rfl HC1.out HC2.out (by have := HLN.out; omega)).mono ?_); rintro e w1 ⟨A6, c6, rfl, q1, q2, q3, ⟨x6, rfl⟩⟩; have HR := Lib.hid q3; have HR1 := Lib.hid q1; have HR2 := Lib.hid q2; clear q1 q2 q3)
          go_returns
          refine PRes.is HRZ.out ⟨A6, c6, rfl, HR1.out, HR2.out, ?_, ?_⟩
          · have q := HR.out
            (try simp only [plus_drew] at q)
            exact q.later (by repeat' (first | (refine Later.of_alt ?_; (repeat' (first | exact (Alt.sets _ HB.out).1 | exact Alt.refl _ | refine Alt.grow ?_ _ | refine Alt.drewL ?_ | refine Alt.drewR ?_ | refine Alt.box ?_ (isBox.mk _ _ _ _ _) (isBox.mk _ _ _ _ _) | refine Alt.alloc ?_ _)); done) | refine Later.alloc ?_ _ | refine Later.grow ?_ _ | refine Later.drew ?_))
          · repeat' (first | exact HP.out | refine Plus.alloc ?_ _ | refine Plus.plus ?_ _ | (refine Plus.setCell ?_ (Nat.le_refl _) _) | refine Plus.drew ?_ | refine Plus.drewN ?_ _)

set_option maxRecDepth 100000 in
set_option maxHeartbeats 16000000 in
theorem rparse_b (s d : ByteArray) (neg : Bool) (hs : s.size ≤ 5000) (hneg : neg = false) (hd : d = s) (h0 : 0 < s.size) (h2 : ((s[0].toNat : Int) == 45) = false) (h3 : ((s[0].toNat : Int) == 48) = true) (h5 : ¬ 1 < (s.size : Int)) (h4 : s.toList.isEmpty = false) (HCN : Hid (Cnt neg d.data.toList)) (HRD : Hid (rd s.data.toList = rdD neg d.data.toList)) (w : World) :
    Calls Tryz.prog 114 #[.string s] w (PRes s.data.toList w) := by
  subst hneg hd
  go_enter Tryz.func114, Tryz.ntmps114
  go_upto_region 8 with fail
  go_loop [6] (fun s6 => ∃ k : Nat, k ≤ d.size ∧ s6 = .int .i64 k ∧ (d.data.toList.take k).all isD = true) (fun s6 => ((d.size : Int) - intOf s6).toNat)
  case atStart => exact ⟨0, Nat.zero_le _, rfl, rfl⟩
  case round =>
    obtain ⟨k, hk, rfl, hall⟩ := hrel
    by_cases hlt : k < d.size
    · have hki : (k : Int) < (d.size : Int) := by omega
      have HALL := Lib.hid hall
      clear hall
      have HNX := Lib.hid (all_next (d := d.data.toList) (k := k) hlt)
      have HFA := Lib.hid (fun h : isD d[k] = false => all_false (d := d.data.toList) (k := k) hlt h)
      by_cases hlo : (d[k].toNat : Int) < 48
      · have hb : isD d[k] = false := by unfold isD; rw [decide_eq_false (by omega)]; rfl
        have HF := Lib.hid (HFA.out hb)
        clear hb
        go_wp2_with fail
        go_returns
        exact form_end HRD (rdD_bad HF.out) ⟨rfl, by repeat' (first | exact Plus.refl _ | refine Plus.alloc ?_ _ | refine Plus.plus ?_ _ | refine Plus.drew ?_ | refine Plus.drewN ?_ _)⟩
      · by_cases hhi : (57 : Int) < (d[k].toNat : Int)
        · have hb : isD d[k] = false := by unfold isD; rw [decide_eq_false (p := d[k].toNat ≤ 57) (by omega), Bool.and_false]
          have HF := Lib.hid (HFA.out hb)
          clear hb
          go_wp2_with fail
          go_returns
          exact form_end HRD (rdD_bad HF.out) ⟨rfl, by repeat' (first | exact Plus.refl _ | refine Plus.alloc ?_ _ | refine Plus.plus ?_ _ | refine Plus.drew ?_ | refine Plus.drewN ?_ _)⟩
        · have hb : isD d[k] = true := by unfold isD; rw [decide_eq_true (by omega), decide_eq_true (by omega)]; rfl
          have HG := Lib.hid hb
          clear hb
          go_wp2_with fail
          go_round
          case rel => exact ⟨k + 1, hlt, by rw [show ((k + 1 : Nat) : Int) = (k : Int) + 1 by omega], by rw [HNX.out, HALL.out]; exact HG.out⟩
          case measure => simp [intOf]; omega
    · obtain rfl : k = d.size := by omega
      have hA : d.data.toList.all isD = true := by
        rw [show d.data.toList.take d.size = d.data.toList from List.take_of_length_le (Nat.le_refl _)] at hall
        exact hall
      have HA := Lib.hid hA
      have HGD := Lib.hid (rdD_good HCN.out hA)
      clear hall hA
      go_upto_region 14 with fail
      go_loopw [7, 8] (PRel d.data.toList w) (fun _ s8 _ => ((d.size : Int) - intOf s8).toNat)
      case atStart => exact ⟨0, 0, none, 0, Nat.zero_le _, rfl, by rw [dig_zero]; rfl, rfl, Nat.pow_pos B_pos, by rw [dig_zero]; exact Nat.le_refl _, by decide, by rw [dig_zero]; exact Lim.nil, BoxO.new' rfl, by repeat' (first | exact Plus.refl _ | refine Plus.alloc ?_ _ | refine Plus.plus ?_ _ | refine Plus.drew ?_ | refine Plus.drewN ?_ _)⟩
      case round =>
        obtain ⟨k, V, A, c, hk, rfl, rfl, hV, hVB, hc1, hc2, hL, hB, hP⟩ := hrel
        have hk' : k ≤ d.size := hk
        have HL := Lib.hid hL
        have HB := Lib.hid hB
        have HP := Lib.hid hP
        have HLN : Hid ((dig V).length ≤ 8) := Lib.hid (dig_len_le hVB)
        have HVB := Lib.hid hVB
        obtain ⟨k0, k1, k2, k3⟩ := hB.cells
        haveI : Old w.heap.size wr := ⟨hB.lt⟩
        haveI : HasCell wr w.heap.size 0 := ⟨_, k0⟩
        haveI : HasCell wr w.heap.size 1 := ⟨_, k1⟩
        clear hL hB hP hVB
        by_cases hlt : k < d.size
        · have hki : (k : Int) < (d.size : Int) := by omega
          have hdg := all_of (d := d.data.toList) (k := k) hlt HA.out
          have HNM := Lib.hid (num_next (d := d.data.toList) (k := k) hlt)
          have hdd : 48 ≤ d[k].toNat ∧ d[k].toNat ≤ 57 := by
            have e : isD d[k] = true := hdg
            unfold isD at e
            simpa using e
          obtain ⟨x, ex⟩ : ∃ x, d[k].toNat - 48 = x := ⟨_, rfl⟩
          have hx9 : x ≤ 9 := by omega
          have HEX : Hid (d.data.toList[k].toNat - 48 = x) := Lib.hid ex
          have hw8 : IntKind.u8.wrap ((d[k].toNat : Int) - 48) = (x : Int) := by rw [show (d[k].toNat : Int) - 48 = (x : Int) by omega]; exact IntWalk.u8_in _ (by omega)
          have hsub : (d[k].toNat : Int) - 48 = (x : Int) := by omega
          have hx0 : (x : Int) ≤ 9 := by omega
          have hx1 : IntKind.u8.wrap (x : Int) = (x : Int) := IntWalk.u8_in _ (by omega)
          have hx2 : IntKind.u32.wrap (x : Int) = (x : Int) := IntWalk.u32_in _ (by omega)
          have HXB : Hid (x < B) := Lib.hid (by have := B_eq; omega)
          have HV := Lib.hid hV
          obtain ⟨ts, ets⟩ : ∃ ts, dig (val (dig V) * val [10]) = ts := ⟨_, rfl⟩
          obtain ⟨tx, etx⟩ : ∃ tx, dig (val [x]) = tx := ⟨_, rfl⟩
          obtain ⟨us, eus⟩ : ∃ us, dig (val ts + val tx) = us := ⟨_, rfl⟩
          have hvx : val [x] = x := by simp [val]
          have hVN : val ts + val tx = 10 * V + x := by rw [← ets, ← etx, val_dig, val_dig, val_dig, val_ten, hvx]; omega
          have hT9 : ts.length ≤ 9 := by
            rw [← ets, val_dig, val_ten]
            have h9 : V * 10 < B ^ 9 := by
              rw [Nat.pow_succ]
              exact Nat.mul_lt_mul_of_lt_of_le HVB.out (by decide) (by decide)
            exact dig_len_le h9
          have hX9 : tx.length ≤ 1 := by
            rw [← etx, hvx]
            exact dig_len_le (show x < B ^ 1 by rw [Nat.pow_one]; exact HXB.out)
          rw [hVN] at eus
          have ht := Lib.hid ets
          have htx := Lib.hid etx
          have hus := Lib.hid (show dig (val ts + val tx) = us by rw [hVN]; exact eus)
          have HUS := Lib.hid eus
          have HTL := Lib.hid hT9
          have HXL := Lib.hid hX9
          have HC1 := Lib.hid hc1
          have HC2 := Lib.hid hc2
          have HNV : Hid (num (d.data.toList.take (k + 1)) = 10 * V + x) := Lib.hid (by rw [HNM.out, HEX.out, HV.out])
          clear ets etx eus hvx hVN hT9 hX9 hdg hdd ex hV HNM HEX hc1 hc2
          go_upto_region 16 with fail
          by_cases hbig : B ^ 8 ≤ 10 * V + x
          · have hul : (8 : Int) < (us.length : Int) := by
              have : ¬ us.length ≤ 8 := by rw [← HUS.out]; exact fun q => Nat.not_lt.2 hbig (dig_long.1 q)
              omega
            have HBIG : Hid (rdD false d.data.toList = .long) := Lib.hid (by
              rw [HGD.out, if_pos]
              have h1 := num_ge (d.data.toList.take (k + 1)) (d.data.toList.drop (k + 1))
              rw [List.take_append_drop, HNV.out] at h1
              omega)
            clear hbig
            go_region_held3 (fun w' => w'.cell? ⟨w.heap.size, 0, none⟩ = some (.bool false)) (simp [go_sem, k0]) (first | (go_at_call 201; (with_reducible refine (rtimes_n _ _ (dig V) [10] ts _ _ _ _ ht _ (by first | exact HL.out | exact HL.out.plus (by repeat' (first | exact Plus.refl _ | refine Plus.alloc ?_ _ | refine Plus.plus ?_ _ | refine Plus.drew ?_ | refine Plus.drewN ?_ _)) | (have q := HL.out.plus (w' := _) (by repeat' (first | exact Plus.refl _ | refine Plus.alloc ?_ _ | refine Plus.plus ?_ _ | refine Plus.drew ?_ | refine Plus.drewN ?_ _)); exact q)) (by repeat' (first | (refine Lim.lit10 _ _ ?_; (simp [go_sem]; done)) | refine Lim.alloc ?_ _ | refine Lim.grow ?_ _ | refine Lim.drew ?_)) rfl (len1 _) (by have := HLN.out; omega) (le1k _)).mono ?_); rintro e w1 ⟨A3, c3, rfl, q1, q2, q3, ⟨x3, rfl⟩⟩; have HT := Lib.hid q3; have HT1 := Lib.hid q1; have HT2 := Lib.hid q2; clear q1 q2 q3) | (go_at_call 199; (with_reducible refine (rtrim_n _ [x] tx _ _ htx _ (by repeat' (first | (refine Lim.litx _ _ _ HXB.out ?_; (simp [go_sem]; done)) | refine Lim.alloc ?_ _ | refine Lim.grow ?_ _ | refine Lim.drew ?_)) (len1 _) (le1 _) le1c (le1m _)).mono ?_); rintro e w1 ⟨A4, c4, rfl, q1, q2, q3, ⟨x4, rfl⟩⟩; have HU := Lib.hid q3; have HU1 := Lib.hid q1; have HU2 := Lib.hid q2; clear q1 q2 q3) | (go_at_call 200; (with_reducible refine (rplus_n A3 A4 ts tx us _ _ _ _ hus _ (by have q := HT.out; (try simp only [plus_drew] at q); first | exact q | exact q.plus (by repeat' (first | exact Plus.refl _ | refine Plus.alloc ?_ _ | refine Plus.plus ?_ _ | refine Plus.drew ?_ | refine Plus.drewN ?_ _))) (by have q := HU.out; (try simp only [plus_drew] at q); first | exact q | exact q.plus (by repeat' (first | exact Plus.refl _ | refine Plus.alloc ?_ _ | refine Plus.plus ?_ _ | refine Plus.drew ?_ | refine Plus.drewN ?_ _))) rfl rfl (by have := HTL.out; omega) (by have := HXL.out; omega)).mono ?_); rintro e w1 ⟨A5, c5, rfl, q1, q2, q3, ⟨x5, rfl⟩⟩; have HN := Lib.hid q3; have HN1 := Lib.hid q1; have HN2 := Lib.hid q2; clear q1 q2 q3))
            all_goals
              go_wp2_with fail
              go_returns
              exact PRes.long (HRD.out.trans HBIG.out) ⟨rfl, by repeat' (first | exact HP.out | refine Plus.alloc ?_ _ | refine Plus.plus ?_ _ | (refine Plus.setCell ?_ (Nat.le_refl _) _) | refine Plus.drew ?_ | refine Plus.drewN ?_ _)⟩
          · have hul : ¬ (8 : Int) < (us.length : Int) := by
              have : us.length ≤ 8 := by rw [← HUS.out]; exact dig_len_le (by omega)
              omega
            have HBIG : Hid (10 * V + x < B ^ 8) := Lib.hid (by omega)
            clear hbig
            go_region_held3 (fun w' => w'.cell? ⟨w.heap.size, 0, none⟩ = some (.bool false)) (simp [go_sem, k0]) (first | (go_at_call 201; (with_reducible refine (rtimes_n _ _ (dig V) [10] ts _ _ _ _ ht _ (by first | exact HL.out | exact HL.out.plus (by repeat' (first | exact Plus.refl _ | refine Plus.alloc ?_ _ | refine Plus.plus ?_ _ | refine Plus.drew ?_ | refine Plus.drewN ?_ _)) | (have q := HL.out.plus (w' := _) (by repeat' (first | exact Plus.refl _ | refine Plus.alloc ?_ _ | refine Plus.plus ?_ _ | refine Plus.drew ?_ | refine Plus.drewN ?_ _)); exact q)) (by repeat' (first | (refine Lim.lit10 _ _ ?_; (simp [go_sem]; done)) | refine Lim.alloc ?_ _ | refine Lim.grow ?_ _ | refine Lim.drew ?_)) rfl (len1 _) (by have := HLN.out; omega) (le1k _)).mono ?_); rintro e w1 ⟨A3, c3, rfl, q1, q2, q3, ⟨x3, rfl⟩⟩; have HT := Lib.hid q3; have HT1 := Lib.hid q1; have HT2 := Lib.hid q2; clear q1 q2 q3) | (go_at_call 199; (with_reducible refine (rtrim_n _ [x] tx _ _ htx _ (by repeat' (first | (refine Lim.litx _ _ _ HXB.out ?_; (simp [go_sem]; done)) | refine Lim.alloc ?_ _ | refine Lim.grow ?_ _ | refine Lim.drew ?_)) (len1 _) (le1 _) le1c (le1m _)).mono ?_); rintro e w1 ⟨A4, c4, rfl, q1, q2, q3, ⟨x4, rfl⟩⟩; have HU := Lib.hid q3; have HU1 := Lib.hid q1; have HU2 := Lib.hid q2; clear q1 q2 q3) | (go_at_call 200; (with_reducible refine (rplus_n A3 A4 ts tx us _ _ _ _ hus _ (by have q := HT.out; (try simp only [plus_drew] at q); first | exact q | exact q.plus (by repeat' (first | exact Plus.refl _ | refine Plus.alloc ?_ _ | refine Plus.plus ?_ _ | refine Plus.drew ?_ | refine Plus.drewN ?_ _))) (by have q := HU.out; (try simp only [plus_drew] at q); first | exact q | exact q.plus (by repeat' (first | exact Plus.refl _ | refine Plus.alloc ?_ _ | refine Plus.plus ?_ _ | refine Plus.drew ?_ | refine Plus.drewN ?_ _))) rfl rfl (by have := HTL.out; omega) (by have := HXL.out; omega)).mono ?_); rintro e w1 ⟨A5, c5, rfl, q1, q2, q3, ⟨x5, rfl⟩⟩; have HN := Lib.hid q3; have HN1 := Lib.hid q1; have HN2 := Lib.hid q2; clear q1 q2 q3))
            all_goals
              go_wp2_with fail
              go_roundw
              case rel =>
                have q := HN.out
                (try simp only [plus_drew] at q)
                refine ⟨k + 1, 10 * V + x, A5, c5, hlt, by rw [show ((k + 1 : Nat) : Int) = (k : Int) + 1 by omega], by rw [HUS.out], HNV.out.symm, HBIG.out, by rw [HUS.out]; exact HN1.out, HN2.out, by rw [HUS.out]; exact q, by exact HB.out.plus' (by repeat' (first | exact Plus.refl _ | refine Plus.alloc ?_ _ | refine Plus.plus ?_ _ | refine Plus.drew ?_ | refine Plus.drewN ?_ _)), by repeat' (first | exact HP.out | refine Plus.alloc ?_ _ | refine Plus.plus ?_ _ | (refine Plus.setCell ?_ (Nat.le_refl _) _) | refine Plus.drew ?_ | refine Plus.drewN ?_ _)⟩
              case measure => simp [intOf]; omega
        · obtain rfl : k = d.size := by omega
          have hV2 : V = num d.data.toList := by rw [hV, show d.data.toList.take d.size = d.data.toList from List.take_of_length_le (Nat.le_refl _)]
          obtain ⟨z, ez⟩ : ∃ z : Int, (if false then -(num d.data.toList : Int) else num d.data.toList) = z := ⟨_, rfl⟩
          have hrd : rdD false d.data.toList = .is z := by rw [HGD.out, if_neg (by rw [← hV2]; exact Nat.not_le.2 HVB.out), ← ez]; (try rfl)
          have HRZ := Lib.hid (HRD.out.trans hrd)
          have hz1 : Hid (sgn false (val (dig V)) = z) := Lib.hid (by rw [val_dig, ← ez, ← hV2]; rfl)
          have hz2 : Hid (decide (z < 0) = decide (z < 0) ∧ dig z.natAbs = dig z.natAbs) := Lib.hid ⟨rfl, rfl⟩
          have HC1 := Lib.hid hc1
          have HC2 := Lib.hid hc2
          clear hV hV2 ez hrd hc1 hc2
          go_wp2_with (go_at_call 112; (with_reducible refine (rmade_n false (decide (z < 0)) A (dig V) (dig z.natAbs) _ c z hz1 hz2 _ (by first | exact HL.out | exact HL.out.plus (by repeat' (first | exact Plus.refl _ | refine Plus.alloc ?_ _ | refine Plus.plus ?_ _ | refine Plus.drew ?_ | refine Plus.drewN ?_ _)) | (have q := HL.out.plus (w' := _) (by repeat' (first | exact Plus.refl _ | refine Plus.alloc ?_ _ | refine Plus.plus ?_ _ | refine Plus.drew ?_ | refine Plus.drewN ?_ _)); exact q)) rfl HC1.out HC2.out (by have := HLN.out; omega)).mono ?_); rintro e w1 ⟨A6, c6, rfl, q1, q2, q3, ⟨x6, rfl⟩⟩; have HR := Lib.hid q3; have HR1 := Lib.hid q1; have HR2 := Lib.hid q2; clear q1 q2 q3)
          go_returns
          refine PRes.is HRZ.out ⟨A6, c6, rfl, HR1.out, HR2.out, ?_, ?_⟩
          · have q := HR.out
            (try simp only [plus_drew] at q)
            exact q.later (by repeat' (first | (refine Later.of_alt ?_; (repeat' (first | exact (Alt.sets _ HB.out).1 | exact Alt.refl _ | refine Alt.grow ?_ _ | refine Alt.drewL ?_ | refine Alt.drewR ?_ | refine Alt.box ?_ (isBox.mk _ _ _ _ _) (isBox.mk _ _ _ _ _) | refine Alt.alloc ?_ _)); done) | refine Later.alloc ?_ _ | refine Later.grow ?_ _ | refine Later.drew ?_))
          · repeat' (first | exact HP.out | refine Plus.alloc ?_ _ | refine Plus.plus ?_ _ | (refine Plus.setCell ?_ (Nat.le_refl _) _) | refine Plus.drew ?_ | refine Plus.drewN ?_ _)

set_option maxRecDepth 100000 in
set_option maxHeartbeats 16000000 in
theorem rparse_c (s d : ByteArray) (neg : Bool) (hs : s.size ≤ 5000) (hneg : neg = true) (hd : s.extract 1 s.size = d) (h0 : 0 < s.size) (h2 : ((s[0].toNat : Int) == 45) = true) (g0 : 0 < d.size) (hds : d.size ≤ 5000) (h3 : ((d[0].toNat : Int) == 48) = false) (h4 : d.toList.isEmpty = false) (HCN : Hid (Cnt neg d.data.toList)) (HRD : Hid (rd s.data.toList = rdD neg d.data.toList)) (w : World) :
    Calls Tryz.prog 114 #[.string s] w (PRes s.data.toList w) := by
  subst hneg
  have h01 : (1 : Int) ≤ (s.size : Int) := by omega
  go_enter Tryz.func114, Tryz.ntmps114
  go_upto_region 8 with fail
  go_loop [6] (fun s6 => ∃ k : Nat, k ≤ d.size ∧ s6 = .int .i64 k ∧ (d.data.toList.take k).all isD = true) (fun s6 => ((d.size : Int) - intOf s6).toNat)
  case atStart => exact ⟨0, Nat.zero_le _, rfl, rfl⟩
  case round =>
    obtain ⟨k, hk, rfl, hall⟩ := hrel
    by_cases hlt : k < d.size
    · have hki : (k : Int) < (d.size : Int) := by omega
      have HALL := Lib.hid hall
      clear hall
      have HNX := Lib.hid (all_next (d := d.data.toList) (k := k) hlt)
      have HFA := Lib.hid (fun h : isD d[k] = false => all_false (d := d.data.toList) (k := k) hlt h)
      by_cases hlo : (d[k].toNat : Int) < 48
      · have hb : isD d[k] = false := by unfold isD; rw [decide_eq_false (by omega)]; rfl
        have HF := Lib.hid (HFA.out hb)
        clear hb
        go_wp2_with fail
        go_returns
        exact form_end HRD (rdD_bad HF.out) ⟨rfl, by repeat' (first | exact Plus.refl _ | refine Plus.alloc ?_ _ | refine Plus.plus ?_ _ | refine Plus.drew ?_ | refine Plus.drewN ?_ _)⟩
      · by_cases hhi : (57 : Int) < (d[k].toNat : Int)
        · have hb : isD d[k] = false := by unfold isD; rw [decide_eq_false (p := d[k].toNat ≤ 57) (by omega), Bool.and_false]
          have HF := Lib.hid (HFA.out hb)
          clear hb
          go_wp2_with fail
          go_returns
          exact form_end HRD (rdD_bad HF.out) ⟨rfl, by repeat' (first | exact Plus.refl _ | refine Plus.alloc ?_ _ | refine Plus.plus ?_ _ | refine Plus.drew ?_ | refine Plus.drewN ?_ _)⟩
        · have hb : isD d[k] = true := by unfold isD; rw [decide_eq_true (by omega), decide_eq_true (by omega)]; rfl
          have HG := Lib.hid hb
          clear hb
          go_wp2_with fail
          go_round
          case rel => exact ⟨k + 1, hlt, by rw [show ((k + 1 : Nat) : Int) = (k : Int) + 1 by omega], by rw [HNX.out, HALL.out]; exact HG.out⟩
          case measure => simp [intOf]; omega
    · obtain rfl : k = d.size := by omega
      have hA : d.data.toList.all isD = true := by
        rw [show d.data.toList.take d.size = d.data.toList from List.take_of_length_le (Nat.le_refl _)] at hall
        exact hall
      have HA := Lib.hid hA
      have HGD := Lib.hid (rdD_good HCN.out hA)
      clear hall hA
      go_upto_region 14 with fail
      go_loopw [7, 8] (PRel d.data.toList w) (fun _ s8 _ => ((d.size : Int) - intOf s8).toNat)
      case atStart => exact ⟨0, 0, none, 0, Nat.zero_le _, rfl, by rw [dig_zero]; rfl, rfl, Nat.pow_pos B_pos, by rw [dig_zero]; exact Nat.le_refl _, by decide, by rw [dig_zero]; exact Lim.nil, BoxO.new' rfl, by repeat' (first | exact Plus.refl _ | refine Plus.alloc ?_ _ | refine Plus.plus ?_ _ | refine Plus.drew ?_ | refine Plus.drewN ?_ _)⟩
      case round =>
        obtain ⟨k, V, A, c, hk, rfl, rfl, hV, hVB, hc1, hc2, hL, hB, hP⟩ := hrel
        have hk' : k ≤ d.size := hk
        have HL := Lib.hid hL
        have HB := Lib.hid hB
        have HP := Lib.hid hP
        have HLN : Hid ((dig V).length ≤ 8) := Lib.hid (dig_len_le hVB)
        have HVB := Lib.hid hVB
        obtain ⟨k0, k1, k2, k3⟩ := hB.cells
        haveI : Old w.heap.size wr := ⟨hB.lt⟩
        haveI : HasCell wr w.heap.size 0 := ⟨_, k0⟩
        haveI : HasCell wr w.heap.size 1 := ⟨_, k1⟩
        clear hL hB hP hVB
        by_cases hlt : k < d.size
        · have hki : (k : Int) < (d.size : Int) := by omega
          have hdg := all_of (d := d.data.toList) (k := k) hlt HA.out
          have HNM := Lib.hid (num_next (d := d.data.toList) (k := k) hlt)
          have hdd : 48 ≤ d[k].toNat ∧ d[k].toNat ≤ 57 := by
            have e : isD d[k] = true := hdg
            unfold isD at e
            simpa using e
          obtain ⟨x, ex⟩ : ∃ x, d[k].toNat - 48 = x := ⟨_, rfl⟩
          have hx9 : x ≤ 9 := by omega
          have HEX : Hid (d.data.toList[k].toNat - 48 = x) := Lib.hid ex
          have hw8 : IntKind.u8.wrap ((d[k].toNat : Int) - 48) = (x : Int) := by rw [show (d[k].toNat : Int) - 48 = (x : Int) by omega]; exact IntWalk.u8_in _ (by omega)
          have hsub : (d[k].toNat : Int) - 48 = (x : Int) := by omega
          have hx0 : (x : Int) ≤ 9 := by omega
          have hx1 : IntKind.u8.wrap (x : Int) = (x : Int) := IntWalk.u8_in _ (by omega)
          have hx2 : IntKind.u32.wrap (x : Int) = (x : Int) := IntWalk.u32_in _ (by omega)
          have HXB : Hid (x < B) := Lib.hid (by have := B_eq; omega)
          have HV := Lib.hid hV
          obtain ⟨ts, ets⟩ : ∃ ts, dig (val (dig V) * val [10]) = ts := ⟨_, rfl⟩
          obtain ⟨tx, etx⟩ : ∃ tx, dig (val [x]) = tx := ⟨_, rfl⟩
          obtain ⟨us, eus⟩ : ∃ us, dig (val ts + val tx) = us := ⟨_, rfl⟩
          have hvx : val [x] = x := by simp [val]
          have hVN : val ts + val tx = 10 * V + x := by rw [← ets, ← etx, val_dig, val_dig, val_dig, val_ten, hvx]; omega
          have hT9 : ts.length ≤ 9 := by
            rw [← ets, val_dig, val_ten]
            have h9 : V * 10 < B ^ 9 := by
              rw [Nat.pow_succ]
              exact Nat.mul_lt_mul_of_lt_of_le HVB.out (by decide) (by decide)
            exact dig_len_le h9
          have hX9 : tx.length ≤ 1 := by
            rw [← etx, hvx]
            exact dig_len_le (show x < B ^ 1 by rw [Nat.pow_one]; exact HXB.out)
          rw [hVN] at eus
          have ht := Lib.hid ets
          have htx := Lib.hid etx
          have hus := Lib.hid (show dig (val ts + val tx) = us by rw [hVN]; exact eus)
          have HUS := Lib.hid eus
          have HTL := Lib.hid hT9
          have HXL := Lib.hid hX9
          have HC1 := Lib.hid hc1
          have HC2 := Lib.hid hc2
          have HNV : Hid (num (d.data.toList.take (k + 1)) = 10 * V + x) := Lib.hid (by rw [HNM.out, HEX.out, HV.out])
          clear ets etx eus hvx hVN hT9 hX9 hdg hdd ex hV HNM HEX hc1 hc2
          go_upto_region 16 with fail
          by_cases hbig : B ^ 8 ≤ 10 * V + x
          · have hul : (8 : Int) < (us.length : Int) := by
              have : ¬ us.length ≤ 8 := by rw [← HUS.out]; exact fun q => Nat.not_lt.2 hbig (dig_long.1 q)
              omega
            have HBIG : Hid (rdD true d.data.toList = .long) := Lib.hid (by
              rw [HGD.out, if_pos]
              have h1 := num_ge (d.data.toList.take (k + 1)) (d.data.toList.drop (k + 1))
              rw [List.take_append_drop, HNV.out] at h1
              omega)
            clear hbig
            go_region_held3 (fun w' => w'.cell? ⟨w.heap.size, 0, none⟩ = some (.bool false)) (simp [go_sem, k0]) (first | (go_at_call 201; (with_reducible refine (rtimes_n _ _ (dig V) [10] ts _ _ _ _ ht _ (by first | exact HL.out | exact HL.out.plus (by repeat' (first | exact Plus.refl _ | refine Plus.alloc ?_ _ | refine Plus.plus ?_ _ | refine Plus.drew ?_ | refine Plus.drewN ?_ _)) | (have q := HL.out.plus (w' := _) (by repeat' (first | exact Plus.refl _ | refine Plus.alloc ?_ _ | refine Plus.plus ?_ _ | refine Plus.drew ?_ | refine Plus.drewN ?_ _)); exact q)) (by repeat' (first | (refine Lim.lit10 _ _ ?_; (simp [go_sem]; done)) | refine Lim.alloc ?_ _ | refine Lim.grow ?_ _ | refine Lim.drew ?_)) rfl (len1 _) (by have := HLN.out; omega) (le1k _)).mono ?_); rintro e w1 ⟨A3, c3, rfl, q1, q2, q3, ⟨x3, rfl⟩⟩; have HT := Lib.hid q3; have HT1 := Lib.hid q1; have HT2 := Lib.hid q2; clear q1 q2 q3) | (go_at_call 199; (with_reducible refine (rtrim_n _ [x] tx _ _ htx _ (by repeat' (first | (refine Lim.litx _ _ _ HXB.out ?_; (simp [go_sem]; done)) | refine Lim.alloc ?_ _ | refine Lim.grow ?_ _ | refine Lim.drew ?_)) (len1 _) (le1 _) le1c (le1m _)).mono ?_); rintro e w1 ⟨A4, c4, rfl, q1, q2, q3, ⟨x4, rfl⟩⟩; have HU := Lib.hid q3; have HU1 := Lib.hid q1; have HU2 := Lib.hid q2; clear q1 q2 q3) | (go_at_call 200; (with_reducible refine (rplus_n A3 A4 ts tx us _ _ _ _ hus _ (by have q := HT.out; (try simp only [plus_drew] at q); first | exact q | exact q.plus (by repeat' (first | exact Plus.refl _ | refine Plus.alloc ?_ _ | refine Plus.plus ?_ _ | refine Plus.drew ?_ | refine Plus.drewN ?_ _))) (by have q := HU.out; (try simp only [plus_drew] at q); first | exact q | exact q.plus (by repeat' (first | exact Plus.refl _ | refine Plus.alloc ?_ _ | refine Plus.plus ?_ _ | refine Plus.drew ?_ | refine Plus.drewN ?_ _))) rfl rfl (by have := HTL.out; omega) (by have := HXL.out; omega)).mono ?_); rintro e w1 ⟨A5, c5, rfl, q1, q2, q3, ⟨x5, rfl⟩⟩; have HN := Lib.hid q3; have HN1 := Lib.hid q1; have HN2 := Lib.hid q2; clear q1 q2 q3))
            all_goals
              go_wp2_with fail
              go_returns
              exact PRes.long (HRD.out.trans HBIG.out) ⟨rfl, by repeat' (first | exact HP.out | refine Plus.alloc ?_ _ | refine Plus.plus ?_ _ | (refine Plus.setCell ?_ (Nat.le_refl _) _) | refine Plus.drew ?_ | refine Plus.drewN ?_ _)⟩
          · have hul : ¬ (8 : Int) < (us.length : Int) := by
              have : us.length ≤ 8 := by rw [← HUS.out]; exact dig_len_le (by omega)
              omega
            have HBIG : Hid (10 * V + x < B ^ 8) := Lib.hid (by omega)
            clear hbig
            go_region_held3 (fun w' => w'.cell? ⟨w.heap.size, 0, none⟩ = some (.bool false)) (simp [go_sem, k0]) (first | (go_at_call 201; (with_reducible refine (rtimes_n _ _ (dig V) [10] ts _ _ _ _ ht _ (by first | exact HL.out | exact HL.out.plus (by repeat' (first | exact Plus.refl _ | refine Plus.alloc ?_ _ | refine Plus.plus ?_ _ | refine Plus.drew ?_ | refine Plus.drewN ?_ _)) | (have q := HL.out.plus (w' := _) (by repeat' (first | exact Plus.refl _ | refine Plus.alloc ?_ _ | refine Plus.plus ?_ _ | refine Plus.drew ?_ | refine Plus.drewN ?_ _)); exact q)) (by repeat' (first | (refine Lim.lit10 _ _ ?_; (simp [go_sem]; done)) | refine Lim.alloc ?_ _ | refine Lim.grow ?_ _ | refine Lim.drew ?_)) rfl (len1 _) (by have := HLN.out; omega) (le1k _)).mono ?_); rintro e w1 ⟨A3, c3, rfl, q1, q2, q3, ⟨x3, rfl⟩⟩; have HT := Lib.hid q3; have HT1 := Lib.hid q1; have HT2 := Lib.hid q2; clear q1 q2 q3) | (go_at_call 199; (with_reducible refine (rtrim_n _ [x] tx _ _ htx _ (by repeat' (first | (refine Lim.litx _ _ _ HXB.out ?_; (simp [go_sem]; done)) | refine Lim.alloc ?_ _ | refine Lim.grow ?_ _ | refine Lim.drew ?_)) (len1 _) (le1 _) le1c (le1m _)).mono ?_); rintro e w1 ⟨A4, c4, rfl, q1, q2, q3, ⟨x4, rfl⟩⟩; have HU := Lib.hid q3; have HU1 := Lib.hid q1; have HU2 := Lib.hid q2; clear q1 q2 q3) | (go_at_call 200; (with_reducible refine (rplus_n A3 A4 ts tx us _ _ _ _ hus _ (by have q := HT.out; (try simp only [plus_drew] at q); first | exact q | exact q.plus (by repeat' (first | exact Plus.refl _ | refine Plus.alloc ?_ _ | refine Plus.plus ?_ _ | refine Plus.drew ?_ | refine Plus.drewN ?_ _))) (by have q := HU.out; (try simp only [plus_drew] at q); first | exact q | exact q.plus (by repeat' (first | exact Plus.refl _ | refine Plus.alloc ?_ _ | refine Plus.plus ?_ _ | refine Plus.drew ?_ | refine Plus.drewN ?_ _))) rfl rfl (by have := HTL.out; omega) (by have := HXL.out; omega)).mono ?_); rintro e w1 ⟨A5, c5, rfl, q1, q2, q3, ⟨x5, rfl⟩⟩; have HN := Lib.hid q3; have HN1 := Lib.hid q1; have HN2 := Lib.hid q2; clear q1 q2 q3))
            all_goals
              go_wp2_with fail
              go_roundw
              case rel =>
                have q := HN.out
                (try simp only [plus_drew] at q)
                refine ⟨k + 1, 10 * V + x, A5, c5, hlt, by rw [show ((k + 1 : Nat) : Int) = (k : Int) + 1 by omega], by rw [HUS.out], HNV.out.symm, HBIG.out, by rw [HUS.out]; exact HN1.out, HN2.out, by rw [HUS.out]; exact q, by exact HB.out.plus' (by repeat' (first | exact Plus.refl _ | refine Plus.alloc ?_ _ | refine Plus.plus ?_ _ | refine Plus.drew ?_ | refine Plus.drewN ?_ _)), by repeat' (first | exact HP.out | refine Plus.alloc ?_ _ | refine Plus.plus ?_ _ | (refine Plus.setCell ?_ (Nat.le_refl _) _) | refine Plus.drew ?_ | refine Plus.drewN ?_ _)⟩
              case measure => simp [intOf]; omega
        · obtain rfl : k = d.size := by omega
          have hV2 : V = num d.data.toList := by rw [hV, show d.data.toList.take d.size = d.data.toList from List.take_of_length_le (Nat.le_refl _)]
          obtain ⟨z, ez⟩ : ∃ z : Int, (if true then -(num d.data.toList : Int) else num d.data.toList) = z := ⟨_, rfl⟩
          have hrd : rdD true d.data.toList = .is z := by rw [HGD.out, if_neg (by rw [← hV2]; exact Nat.not_le.2 HVB.out), ← ez]; (try rfl)
          have HRZ := Lib.hid (HRD.out.trans hrd)
          have hz1 : Hid (sgn true (val (dig V)) = z) := Lib.hid (by rw [val_dig, ← ez, ← hV2]; rfl)
          have hz2 : Hid (decide (z < 0) = decide (z < 0) ∧ dig z.natAbs = dig z.natAbs) := Lib.hid ⟨rfl, rfl⟩
          have HC1 := Lib.hid hc1
          have HC2 := Lib.hid hc2
          clear hV hV2 ez hrd hc1 hc2
          go_wp2_with (go_at_call 112; (with_reducible refine (rmade_n true (decide (z < 0)) A (dig V) (dig z.natAbs) _ c z hz1 hz2 _ (by first | exact HL.out | exact HL.out.plus (by repeat' (first | exact Plus.refl _ | refine Plus.alloc ?_ _ | refine Plus.plus ?_ _ | refine Plus.drew ?_ | refine Plus.drewN ?_ _)) | (have q := HL.out.plus (w' := _) (by repeat' (first | exact Plus.refl _ | refine Plus.alloc ?_ _ | refine Plus.plus ?_ _ | refine Plus.drew ?_ | refine Plus.drewN ?_ _)); exact q)) rfl HC1.out HC2.out (by have := HLN.out; omega)).mono ?_); rintro e w1 ⟨A6, c6, rfl, q1, q2, q3, ⟨x6, rfl⟩⟩; have HR := Lib.hid q3; have HR1 := Lib.hid q1; have HR2 := Lib.hid q2; clear q1 q2 q3)
          go_returns
          refine PRes.is HRZ.out ⟨A6, c6, rfl, HR1.out, HR2.out, ?_, ?_⟩
          · have q := HR.out
            (try simp only [plus_drew] at q)
            exact q.later (by repeat' (first | (refine Later.of_alt ?_; (repeat' (first | exact (Alt.sets _ HB.out).1 | exact Alt.refl _ | refine Alt.grow ?_ _ | refine Alt.drewL ?_ | refine Alt.drewR ?_ | refine Alt.box ?_ (isBox.mk _ _ _ _ _) (isBox.mk _ _ _ _ _) | refine Alt.alloc ?_ _)); done) | refine Later.alloc ?_ _ | refine Later.grow ?_ _ | refine Later.drew ?_))
          · repeat' (first | exact HP.out | refine Plus.alloc ?_ _ | refine Plus.plus ?_ _ | (refine Plus.setCell ?_ (Nat.le_refl _) _) | refine Plus.drew ?_ | refine Plus.drewN ?_ _)

set_option maxRecDepth 100000 in
set_option maxHeartbeats 16000000 in
theorem rparse_f1 (s d : ByteArray) (neg : Bool) (hs : s.size ≤ 5000) (hneg : neg = false) (hd : d = s) (h0 : ¬ 0 < s.size) (h4 : s.toList.isEmpty = true) (HF : Hid (rdD neg d.data.toList = .form)) (HRD : Hid (rd s.data.toList = rdD neg d.data.toList)) (w : World) :
    Calls Tryz.prog 114 #[.string s] w (PRes s.data.toList w) := by
  subst hneg hd
  go_enter Tryz.func114, Tryz.ntmps114
  go_wp2_with fail
  all_goals
    go_returns
    exact form_end HRD HF.out ⟨rfl, by repeat' (first | exact Plus.refl _ | refine Plus.alloc ?_ _ | refine Plus.plus ?_ _ | refine Plus.drew ?_ | refine Plus.drewN ?_ _)⟩

set_option maxRecDepth 100000 in
set_option maxHeartbeats 16000000 in
theorem rparse_f2 (s d : ByteArray) (neg : Bool) (hs : s.size ≤ 5000) (hneg : neg = false) (hd : d = s) (h0 : 0 < s.size) (h2 : ((s[0].toNat : Int) == 45) = false) (h3 : ((s[0].toNat : Int) == 48) = true) (h5 : 1 < (s.size : Int)) (h4 : s.toList.isEmpty = false) (HF : Hid (rdD neg d.data.toList = .form)) (HRD : Hid (rd s.data.toList = rdD neg d.data.toList)) (w : World) :
    Calls Tryz.prog 114 #[.string s] w (PRes s.data.toList w) := by
  subst hneg hd
  go_enter Tryz.func114, Tryz.ntmps114
  go_wp2_with fail
  all_goals
    go_returns
    exact form_end HRD HF.out ⟨rfl, by repeat' (first | exact Plus.refl _ | refine Plus.alloc ?_ _ | refine Plus.plus ?_ _ | refine Plus.drew ?_ | refine Plus.drewN ?_ _)⟩

set_option maxRecDepth 100000 in
set_option maxHeartbeats 16000000 in
theorem rparse_f3 (s d : ByteArray) (neg : Bool) (hs : s.size ≤ 5000) (hneg : neg = true) (hd : s.extract 1 s.size = d) (h0 : 0 < s.size) (h2 : ((s[0].toNat : Int) == 45) = true) (h4 : d.toList.isEmpty = true) (HF : Hid (rdD neg d.data.toList = .form)) (HRD : Hid (rd s.data.toList = rdD neg d.data.toList)) (w : World) :
    Calls Tryz.prog 114 #[.string s] w (PRes s.data.toList w) := by
  subst hneg
  have h01 : (1 : Int) ≤ (s.size : Int) := by omega
  go_enter Tryz.func114, Tryz.ntmps114
  go_wp2_with fail
  all_goals
    go_returns
    exact form_end HRD HF.out ⟨rfl, by repeat' (first | exact Plus.refl _ | refine Plus.alloc ?_ _ | refine Plus.plus ?_ _ | refine Plus.drew ?_ | refine Plus.drewN ?_ _)⟩

set_option maxRecDepth 100000 in
set_option maxHeartbeats 16000000 in
theorem rparse_f4 (s d : ByteArray) (neg : Bool) (hs : s.size ≤ 5000) (hneg : neg = true) (hd : s.extract 1 s.size = d) (h0 : 0 < s.size) (h2 : ((s[0].toNat : Int) == 45) = true) (g0 : 0 < d.size) (h3 : ((d[0].toNat : Int) == 48) = true) (h4 : d.toList.isEmpty = false) (HF : Hid (rdD neg d.data.toList = .form)) (HRD : Hid (rd s.data.toList = rdD neg d.data.toList)) (w : World) :
    Calls Tryz.prog 114 #[.string s] w (PRes s.data.toList w) := by
  subst hneg
  have h01 : (1 : Int) ≤ (s.size : Int) := by omega
  go_enter Tryz.func114, Tryz.ntmps114
  go_wp2_with fail
  all_goals
    go_returns
    exact form_end HRD HF.out ⟨rfl, by repeat' (first | exact Plus.refl _ | refine Plus.alloc ?_ _ | refine Plus.plus ?_ _ | refine Plus.drew ?_ | refine Plus.drewN ?_ _)⟩

theorem empty_is {s : ByteArray} (h : ¬ 0 < s.size) : s.toList.isEmpty = true := by
  rw [ByteArray.toList_eq]
  have : s.data.toList.length = 0 := by
    have e : s.data.toList.length = s.size := rfl
    omega
  rw [List.length_eq_zero_iff.1 this]
  rfl
theorem empty_no {s : ByteArray} (h : 0 < s.size) : s.toList.isEmpty = false := by
  rw [ByteArray.toList_eq]
  have e : s.data.toList.length = s.size := rfl
  cases hh : s.data.toList with
  | nil => rw [hh] at e; simp at e; omega
  | cons _ _ => rfl
theorem head_is {s : ByteArray} (h : 0 < s.size) : s.data.toList.head? = some s[0] := by
  have e : s.data.toList.length = s.size := rfl
  rw [List.head?_eq_getElem?, List.getElem?_eq_getElem (by omega)]
  rfl
theorem byte_eq (c : UInt8) (k : Nat) (hk : k < 256) : ((c.toNat : Int) == (k : Int)) = (c == UInt8.ofNat k) := by
  rw [Bool.eq_iff_iff, beq_iff_eq, beq_iff_eq]
  constructor
  · intro h
    apply UInt8.toNat_inj.1
    rw [UInt8.toNat_ofNat']
    omega
  · intro h
    rw [h, UInt8.toNat_ofNat']
    omega
theorem tail_is (s : ByteArray) : (s.extract 1 s.size).data.toList = s.data.toList.tail := by
  rw [ByteArray.data_extract, Array.toList_extract, List.extract_eq_take_drop]
  rw [List.take_of_length_le (by simp)]
  simp
theorem rparse_all (s : ByteArray) (hs : s.size ≤ 5000) (w : World) : Calls Tryz.prog 114 #[.string s] w (PRes s.data.toList w) := by
  have hr := rd_is s.data.toList
  by_cases h0 : 0 < s.size
  · have hh := head_is h0
    have hne := empty_no h0
    have b45 := byte_eq s[0] 45 (by decide)
    have b48 := byte_eq s[0] 48 (by decide)
    rw [hh] at hr
    by_cases hm : s[0] = 45
    · have e1 : (some s[0] == some (45 : UInt8)) = true := by rw [hm]; rfl
      rw [e1, if_pos rfl] at hr
      have t2 : ((s[0].toNat : Int) == 45) = true := by rw [show ((45 : Int)) = ((45 : Nat) : Int) from rfl, b45, hm]; rfl
      obtain ⟨d, hd⟩ : ∃ d, s.extract 1 s.size = d := ⟨_, rfl⟩
      have hdt : s.data.toList.tail = d.data.toList := by rw [← hd]; exact (tail_is s).symm
      rw [hdt] at hr
      by_cases g0 : 0 < d.size
      · have gh := head_is g0
        have gne := empty_no g0
        have c48 := byte_eq d[0] 48 (by decide)
        by_cases hz : d[0] = 48
        · have t3 : ((d[0].toNat : Int) == 48) = true := by rw [show ((48 : Int)) = ((48 : Nat) : Int) from rfl, c48, hz]; rfl
          exact rparse_f4 s d true hs rfl hd h0 t2 g0 t3 gne (Lib.hid (rdD_nought (by rw [gh, hz]) (.inr rfl))) (Lib.hid hr) w
        · have t3 : ((d[0].toNat : Int) == 48) = false := by rw [show ((48 : Int)) = ((48 : Nat) : Int) from rfl, c48]; exact beq_eq_false_iff_ne.2 hz
          refine rparse_c s d true hs rfl hd h0 t2 g0 (by have e1 : d.data.toList.length = d.size := rfl; have e2 : s.data.toList.length = s.size := rfl; rw [← hdt, List.length_tail] at e1; omega) t3 gne (Lib.hid ⟨fun e => ?_, fun e => ?_⟩) (Lib.hid hr) w
          · rw [e] at gh; cases gh
          · rw [gh] at e
            injection e with e
            exact (hz e).elim
      · have hdn : d.data.toList = [] := by
          have e : d.data.toList.length = d.size := rfl
          exact List.length_eq_zero_iff.1 (by omega)
        exact rparse_f3 s d true hs rfl hd h0 t2 (empty_is g0) (Lib.hid (by rw [hdn]; exact rdD_nil _)) (Lib.hid hr) w
    · have e1 : (some s[0] == some (45 : UInt8)) = false := by simpa using hm
      rw [e1, if_neg (by decide)] at hr
      have t2 : ((s[0].toNat : Int) == 45) = false := by rw [show ((45 : Int)) = ((45 : Nat) : Int) from rfl, b45]; exact beq_eq_false_iff_ne.2 hm
      by_cases hz : s[0] = 48
      · have t3 : ((s[0].toNat : Int) == 48) = true := by rw [show ((48 : Int)) = ((48 : Nat) : Int) from rfl, b48, hz]; rfl
        have el : s.data.toList.length = s.size := rfl
        by_cases h1 : 1 < s.size
        · exact rparse_f2 s s false hs rfl rfl h0 t2 t3 (by omega) hne (Lib.hid (rdD_nought (by rw [hh, hz]) (.inl (by omega)))) (Lib.hid hr) w
        · refine rparse_b s s false hs rfl rfl h0 t2 t3 (by omega) hne (Lib.hid ⟨fun e => ?_, fun _ => ⟨by omega, rfl⟩⟩) (Lib.hid hr) w
          rw [e] at hh; cases hh
      · have t3 : ((s[0].toNat : Int) == 48) = false := by rw [show ((48 : Int)) = ((48 : Nat) : Int) from rfl, b48]; exact beq_eq_false_iff_ne.2 hz
        refine rparse_a s s false hs rfl rfl h0 t2 t3 hne (Lib.hid ⟨fun e => ?_, fun e => ?_⟩) (Lib.hid hr) w
        · rw [e] at hh; cases hh
        · rw [hh] at e
          injection e with e
          exact (hz e).elim
  · have hn : s.data.toList = [] := by
      have e : s.data.toList.length = s.size := rfl
      exact List.length_eq_zero_iff.1 (by omega)
    exact rparse_f1 s s false hs rfl rfl h0 (empty_is h0) (Lib.hid (by rw [hn]; exact rdD_nil _)) (Lib.hid (by rw [hn]; rfl)) w
theorem rparse_n {s : ByteArray} {r er : Int} {pb : Bool} {us : List Nat} (hr : Hid (ParN r er s pb us)) (hs : Hid (s.size ≤ 5000)) (w : World) : Calls Tryz.prog 114 #[.string s] w fun e w' => ∃ (A1 : Option Addr) (c1 : Nat), e = .returned (.tuple #[.agg #[.bool pb, .slice A1 us.length c1], .int .i64 er]) ∧ Arg w' A1 us us.length c1 ∧ Plus w w' := by
  obtain ⟨h1, h2, h3, _⟩ := hr.out
  refine (rparse_all s hs.out w).mono fun e w' h => ?_
  have ⟨e1, e2, e3⟩ := h1
  unfold PRes at h
  unfold parI at h2
  unfold parE at h3
  cases hh : rd s.data.toList with
  | form =>
    rw [hh] at h h2 h3
    simp only at h h2 h3
    subst h2 h3
    have e4 : us = [] := by rw [← e2]; exact dig_zero
    have e5 : pb = false := by rw [← e1]; rfl
    subst e4 e5
    exact ⟨none, 0, h.1, h1.arg (by rw [e2]; exact Nat.le_refl _) (by omega) (by rw [e2]; exact Lim.nil), h.2⟩
  | long =>
    rw [hh] at h h2 h3
    simp only at h h2 h3
    subst h2 h3
    have e4 : us = [] := by rw [← e2]; exact dig_zero
    have e5 : pb = false := by rw [← e1]; rfl
    subst e4 e5
    exact ⟨none, 0, h.1, h1.arg (by rw [e2]; exact Nat.le_refl _) (by omega) (by rw [e2]; exact Lim.nil), h.2⟩
  | is z =>
    rw [hh] at h h2 h3
    simp only at h h2 h3
    subst h2 h3
    obtain ⟨A1, c1, q0, q1, q2, q3, q4⟩ := h
    rw [e1, e2] at q0
    exact ⟨A1, c1, q0, h1.arg q1 q2 q3, q4⟩

end Go.Proofs.YtakahpbondaidaaGreatDoor.Bg
namespace Go.Proofs.YtakahpbondaidaaGreatDoor.Bg
open Go.RowKit

/-- An append to a row of the call's own, in a region that draws its order. -/
theorem step_append_mine {P : Program} {ops : Array Oper} {o : Oper} {a : Act} {w : World} {K : Act → World → Prop} {Q : Exit → Act → World → Prop} {E : Prop} (hgd : o.guard = none) (s x : Operand) (t : TypeId)
    (ho : o.op = .call { callee := .builtin .append, args := #[s, x], argTypes := #[t, t] })
    (base : Nat) (e : TypeId) (i : TypeInfo) (z : Value) (size bytes : Nat) (ht : P.underlying t = some (.slice e)) (hi : P.info? e = some i) (hz : i.zero = some z)
    (hsize : i.size = size) (hby : i.bytes = bytes) (hzs : z.cells.size = size) (hsz : 0 < size)
    (v : Value) (n : Nat) (xs : List Value) (hs : a.eval s = v) (hown : w.ownsRow base e size v n xs)
    (ad : Addr) (m c : Nat) (news : List Value) (hx : a.eval x = .slice (some ad) m c) (hl : news.length = m * size) (hnews : ∀ j u, news[j]? = some u → w.cell? (ad.add j) = some u) (h1 : ∀ u ∈ news, u.oneCell' = true)
    (h63 : n + m ≤ maxLen) (hbytes : (n + m) * bytes ≤ 140737488355328) (hbase : base ≤ w.heap.size)
    (h : ∀ v' w', w'.ownsRow base e size v' (n + m) (xs ++ news) → w.grownBy w' v.ownBlock → K (a.put o.dst v') w') :
    if Region.wanted o (yielded ops a.tmps) = true then Oper.wp P o a w K Q else E := by
  rw [if_pos (by simp [Region.wanted, hgd])]
  exact wp_append_own w s x t ho base e i z size bytes ht hi hz hsize hby hzs hsz v n xs hs hown ad m c news hx hl hnews h1 h63 hbytes hbase fun v' w' h2 h3 _ => h v' w' h2 h3
theorem own_made_at {W : World} {B : Nat} (hB : B = W.heap.size) : (W.alloc (.cells #[] 69)).drew.ownsRow B 69 1 (.slice (some ⟨B, 0, none⟩) 0 0) 0 [] := by
  subst hB
  exact World.ownsRow_made W #[] 0 (Nat.le_refl _) (Nat.zero_le _) rfl
theorem copied {W w1 : World} {xs : List Nat} {v1 : Value} {B : Nat} (hB : B = W.heap.size) (ho : okL xs) (h1 : w1.ownsRow B 69 1 v1 (0 + xs.length) (([] : List Value) ++ u32s xs)) (hg : (W.alloc (.cells #[] 69)).drew.grownBy w1 (some B)) :
    ∃ A1 c1 z, v1 = .slice A1 xs.length c1 ∧ w1 = _root_.Go.Proofs.YtakahpbondaidaaGreatDoor.plus W z ∧ xs.length ≤ c1 ∧ c1 ≤ 9223372036854775807 ∧ Lim (_root_.Go.Proofs.YtakahpbondaidaaGreatDoor.plus W z) A1 xs := by
  subst hB
  rw [Nat.zero_add, List.nil_append] at h1
  obtain ⟨A, c, rfl, q1, q2, q3, q4⟩ := lim_of_own' ho h1
  have hb : Below W.heap.size W (W.alloc (.cells #[] 69)).drew := ((Below.refl _ W).alloc (Nat.le_refl _) _).drew
  obtain ⟨z, rfl⟩ := Plus.of_below (hb.grown hg (by simp) (fun j e => by injection e with e; omega))
  exact ⟨A, c, z, rfl, rfl, q1, q2, q3⟩
set_option maxRecDepth 100000 in
set_option maxHeartbeats 4000000 in
theorem rcopy_h (an : Bool) (ad : Addr) (xs : List Nat) (c : Nat) (w : World) (ha : Hid (Arg w (some ad) xs xs.length c)) :
    Calls Tryz.prog 42 #[.agg #[.bool an, .slice (some ad) xs.length c]] w fun e w' => ∃ (A1 : Option Addr) (c1 : Nat), e = .returned (.agg #[.bool an, .slice A1 xs.length c1]) ∧ Arg w' A1 xs xs.length c1 ∧ Plus w w' := by
  obtain ⟨i0, hi, hz0, hz1, hz2⟩ := info_parts info53_
  have hfew : Hid (xs.length ≤ 1048576) := Lib.hid ha.out.few
  go_enter Tryz.func42, Tryz.ntmps42
  go_upto_region 1 with fail
  go_region_held3 (fun w' => w'.cell? ⟨w.heap.size, 0, none⟩ = some (.bool an) ∧ w'.cell? ⟨w.heap.size, 1, none⟩ = some (.slice (some ad) xs.length c)) (first | (refine ⟨?_, ?_⟩ <;> simp [go_sem]; done) | go_show)
    ((refine step_append_mine (by rfl) _ _ _ (by rfl) (w.heap.size + 1 + 1) 69 i0 (.int .u32 0) 1 4 Tryz.underlying24 hi hz0 hz1 hz2 rfl (by decide) (.slice (some ⟨w.heap.size + 1 + 1, 0, none⟩) 0 0) 0 [] (by rfl) (own_made_at (W := (w.alloc (.cells #[.bool an, .slice (some ad) xs.length c] 26)).alloc (.cells #[.bool false, .slice none 0 0] 26)) (by simp [go_sem])) ad xs.length c (u32s xs) (by rfl) (by rw [u32s_len]; simp) (news_lim (ha.out.lim.plus (by repeat' (first | exact Plus.refl _ | refine Plus.alloc ?_ _ | refine Plus.plus ?_ _ | refine Plus.drew ?_ | refine Plus.drewN ?_ _)))) (u32s_one _) (by have := hfew.out; unfold maxLen; omega) (by have := hfew.out; omega) (by simp [go_sem]) ?_; intro v1 w1 hown1 hgr1; obtain ⟨A1, c1, z, rfl, rfl, q1, q2, q3⟩ := copied (W := (w.alloc (.cells #[.bool an, .slice (some ad) xs.length c] 26)).alloc (.cells #[.bool false, .slice none 0 0] 26)) (by simp [go_sem]) ha.out.lim.1 hown1 hgr1; have HL := Lib.hid q3; have H1 := Lib.hid q1; have H2 := Lib.hid q2; clear hown1 hgr1 q1 q2 q3))
  all_goals
    go_wp2_with fail
    go_returns
    refine ⟨A1, c1, rfl, ⟨?_, rfl, hfew.out, H1.out, H2.out⟩, ?_⟩
    · have q := HL.out
      (try simp only [plus_drew] at q)
      exact q.later (by repeat' (first | (refine Later.of_alt ?_; (repeat' (first | exact Alt.refl _ | refine Alt.grow ?_ _ | refine Alt.drewL ?_ | refine Alt.drewR ?_ | refine Alt.box ?_ (isBox.mk _ _ _ _ _) (isBox.mk _ _ _ _ _) | refine Alt.alloc ?_ _)); done) | refine Later.alloc ?_ _ | refine Later.grow ?_ _ | refine Later.drew ?_))
    · repeat' (first | exact Plus.refl _ | refine Plus.alloc ?_ _ | refine Plus.plus ?_ _ | refine Plus.drew ?_ | refine Plus.drewN ?_ _)

set_option maxRecDepth 100000 in
set_option maxHeartbeats 4000000 in
theorem rcopy_nil (an : Bool) (c : Nat) (w : World) :
    Calls Tryz.prog 42 #[.agg #[.bool an, .slice none 0 c]] w fun e w' => e = .returned (.agg #[.bool an, .slice (some ⟨w.heap.size + 1 + 1, 0, none⟩) 0 0]) ∧ Plus w w' := by
  go_enter Tryz.func42, Tryz.ntmps42
  go_upto_region 1 with fail
  go_region
  all_goals
    go_wp2_with fail
    go_returns
    exact ⟨rfl, by repeat' (first | exact Plus.refl _ | refine Plus.alloc ?_ _ | refine Plus.plus ?_ _ | refine Plus.drew ?_ | refine Plus.drewN ?_ _)⟩
theorem rcopy_c {an : Bool} {A : Option Addr} {xs : List Nat} {n c : Nat} (w : World) (ha : Arg w A xs n c) :
    Calls Tryz.prog 42 #[.agg #[.bool an, .slice A n c]] w fun e w' => ∃ (A1 : Option Addr) (c1 : Nat), e = .returned (.agg #[.bool an, .slice A1 n c1]) ∧ Arg w' A1 xs n c1 ∧ Plus w w' := by
  obtain rfl := ha.len
  rcases A with _ | ad
  · have h0 : xs = [] := by
      rcases xs with _ | ⟨x, xs⟩
      · rfl
      · obtain ⟨ad, e, _⟩ := ha.lim.2 (by simp)
        cases e
    subst h0
    exact (rcopy_nil an c w).mono fun _ _ ⟨h1, h2⟩ => ⟨_, 0, h1, ⟨Lim.nil, rfl, by decide, Nat.le_refl _, by decide⟩, h2⟩
  · exact rcopy_h an ad xs c w (Lib.hid ha)

end Go.Proofs.YtakahpbondaidaaGreatDoor.Bg
