/- The document's Parse. -/
import Derived.Deep.LoopGhost
import Derived.Test.YthaokkmbghgopaaF2
namespace Go.Proofs.Ythaokkmbghgopaa
open Go.RowKit


/-- What Parse gives. -/
def PRes (l : List UInt8) (w : World) (e : Ending) (w' : World) : Prop :=
  match rd l with
  | .form => e = .returned (.tuple #[.agg #[.bool false, .slice none 0 0], .int .i64 2]) ∧ Plus w w'
  | .long => e = .returned (.tuple #[.agg #[.bool false, .slice none 0 0], .int .i64 3]) ∧ Plus w w'
  | .is z => ∃ (A1 : Option Addr) (c1 : Nat), e = .returned (.tuple #[.agg #[.bool (decide (z < 0)), .slice A1 (dig z.natAbs).length c1], .int .i64 0]) ∧ (dig z.natAbs).length ≤ c1 ∧ c1 ≤ 9223372036854775807 ∧ Lim w' A1 (dig z.natAbs) ∧ Plus w w'
theorem PRes.form {l : List UInt8} {w w' : World} {e : Ending} (h : rd l = .form) (he : e = .returned (.tuple #[.agg #[.bool false, .slice none 0 0], .int .i64 2]) ∧ Plus w w') : PRes l w e w' := by
  unfold PRes
  rw [h]
  exact he
theorem PRes.long {l : List UInt8} {w w' : World} {e : Ending} (h : rd l = .long) (he : e = .returned (.tuple #[.agg #[.bool false, .slice none 0 0], .int .i64 3]) ∧ Plus w w') : PRes l w e w' := by
  unfold PRes
  rw [h]
  exact he
theorem PRes.is {l : List UInt8} {w w' : World} {e : Ending} {z : Int} (h : rd l = .is z) (he : ∃ (A1 : Option Addr) (c1 : Nat), e = .returned (.tuple #[.agg #[.bool (decide (z < 0)), .slice A1 (dig z.natAbs).length c1], .int .i64 0]) ∧ (dig z.natAbs).length ≤ c1 ∧ c1 ≤ 9223372036854775807 ∧ Lim w' A1 (dig z.natAbs) ∧ Plus w w') : PRes l w e w' := by
  unfold PRes
  rw [h]
  exact he
def rdD (neg : Bool) (d : List UInt8) : Rd := if isCnt d = false ∨ (neg = true ∧ d = [48]) then .form else if B ^ 8 ≤ num d then .long else .is (if neg then -(num d : Int) else num d)
theorem rd_is (l : List UInt8) : rd l = rdD (l.head? == some 45) (if l.head? == some 45 then l.tail else l) := rfl
theorem rdD_bad {neg : Bool} {d : List UInt8} (h : d.all isD = false) : rdD neg d = .form := by
  unfold rdD
  rw [if_pos (.inl (by unfold isCnt; rw [h, Bool.and_false]))]
theorem rdD_nil (neg : Bool) : rdD neg [] = .form := rfl
theorem rdD_nought {neg : Bool} {d : List UInt8} (h : d.head? = some 48) (h1 : 1 < d.length ∨ neg = true) : rdD neg d = .form := by
  unfold rdD
  rcases d with _ | ⟨c, d⟩
  · rfl
  simp at h
  subst h
  by_cases hd : d = []
  · subst hd
    rw [if_pos (.inr ⟨by simpa using h1, rfl⟩)]
  · refine if_pos (.inl ?_)
    unfold isCnt
    cases hq : ((48 :: d : List UInt8) == [48]) with
    | false => simp
    | true =>
      rw [beq_iff_eq] at hq
      injection hq with _ hq
      exact (hd hq).elim
/-- Digits, the first no nought but alone. -/
def Cnt (neg : Bool) (d : List UInt8) : Prop := d ≠ [] ∧ (d.head? = some 48 → d.length = 1 ∧ neg = false)
theorem rdD_good {neg : Bool} {d : List UInt8} (h : Cnt neg d) (ha : d.all isD = true) : rdD neg d = if B ^ 8 ≤ num d then .long else .is (if neg then -(num d : Int) else num d) := by
  obtain ⟨h1, h2⟩ := h
  unfold rdD
  rw [if_neg]
  rintro (h3 | ⟨h3, h4⟩)
  · rcases d with _ | ⟨c, d⟩
    · exact h1 rfl
    · unfold isCnt at h3
      rw [ha] at h3
      by_cases hc : c = 48
      · subst hc
        obtain ⟨q, _⟩ := h2 rfl
        simp at q
        subst q
        revert h3
        decide
      · simp [hc] at h3
  · subst h4
    have := (h2 rfl).2
    rw [this] at h3
    cases h3
theorem all_next {d : List UInt8} {k : Nat} (hk : k < d.length) : (d.take (k + 1)).all isD = ((d.take k).all isD && isD d[k]) := by
  rw [List.take_succ_eq_append_getElem hk, List.all_append]
  simp
theorem num_next {d : List UInt8} {k : Nat} (hk : k < d.length) : num (d.take (k + 1)) = 10 * num (d.take k) + (d[k].toNat - 48) := by
  rw [List.take_succ_eq_append_getElem hk, num_snoc]
theorem all_false {d : List UInt8} {k : Nat} (hk : k < d.length) (h : isD d[k] = false) : d.all isD = false := by
  rw [List.all_eq_false]
  exact ⟨d[k], List.getElem_mem hk, by rw [h]; decide⟩
theorem all_of {d : List UInt8} {k : Nat} (hk : k < d.length) (h : d.all isD = true) : isD d[k] = true := List.all_eq_true.1 h _ (List.getElem_mem hk)
theorem Lim.litx (w : World) (x g : Nat) (hx : x < B) (hg : g = w.heap.size) : Lim (w.alloc (.cells #[.int .u32 (x : Int)] 53)) (some ⟨g, 0, none⟩) [x] := by
  subst hg
  refine ⟨okL.cons hx okL_nil, fun _ => ⟨_, rfl, by simp, fun j hj => ?_⟩⟩
  have : j = 0 := by simp at hj; omega
  subst this
  rw [zero_add_addr, World.cell?_alloc_at _ _ _ _ rfl]
  rfl
theorem rtrim_n (A : Option Addr) (xs us : List Nat) (n c : Nat) (hv : Hid (dig (val xs) = us)) (w : World) (h : Lim w A xs) (hn : n = xs.length) (hl : xs.length ≤ c) (hc : c ≤ 9223372036854775807) (hs : xs.length ≤ 2097152) :
    Calls Try.prog 71 #[.slice A n c] w fun e w' => ∃ (A1 : Option Addr) (c1 : Nat), e = .returned (.slice A1 us.length c1) ∧ us.length ≤ c1 ∧ c1 ≤ 9223372036854775807 ∧ Lim w' A1 us ∧ Plus w w' := by
  have h := rtrim_c A xs n c w h hn hl hc hs
  obtain rfl := hv.out
  exact h.mono fun _ _ ⟨A1, c1, h1, h2, h3, h4, h5, _⟩ => ⟨A1, c1, h1, h2, h3, h4, h5⟩
theorem len1 (a : Nat) : 1 = [a].length := rfl
theorem le1 (a : Nat) : [a].length ≤ 1 := Nat.le_refl _
theorem le1k (a : Nat) : [a].length ≤ 1024 := by show 1 ≤ 1024; decide
theorem le1m (a : Nat) : [a].length ≤ 2097152 := by show 1 ≤ 2097152; decide
theorem le1c : 1 ≤ 9223372036854775807 := by decide
def PRel (D : List UInt8) (w : World) (s7 s8 : Value) (wr : World) : Prop :=
  ∃ (k V : Nat) (A : Option Addr) (c : Nat), k ≤ D.length ∧ s8 = .int .i64 k ∧ s7 = .slice A (dig V).length c ∧ V = num (D.take k) ∧ V < B ^ 8 ∧ (dig V).length ≤ c ∧ c ≤ 9223372036854775807 ∧ Lim wr A (dig V) ∧ BoxO wr w.heap.size false none 0 0 ∧ Plus w wr
theorem form_end {s : ByteArray} {neg : Bool} {d : List UInt8} {w w' : World} {e : Ending} (hr : Hid (rd s.data.toList = rdD neg d)) (h : rdD neg d = .form) (he : e = .returned (.tuple #[.agg #[.bool false, .slice none 0 0], .int .i64 2]) ∧ Plus w w') : PRes s.data.toList w e w' := PRes.form (hr.out.trans h) he

set_option maxRecDepth 100000 in
set_option maxHeartbeats 16000000 in
theorem rparse_a (s d : ByteArray) (neg : Bool) (hs : s.size ≤ 300) (hneg : neg = false) (hd : d = s) (h0 : 0 < s.size) (h2 : ((s[0].toNat : Int) == 45) = false) (h3 : ((s[0].toNat : Int) == 48) = false) (h4 : s.toList.isEmpty = false) (HCN : Hid (Cnt neg d.data.toList)) (HRD : Hid (rd s.data.toList = rdD neg d.data.toList)) (w : World) :
    Calls Try.prog 47 #[.string s] w (PRes s.data.toList w) := by
  subst hneg hd
  go_enter Try.func47, Try.ntmps47
  go_upto_region 8 with fail
  go_loop [6] (fun s6 => ∃ k : Nat, k ≤ d.size ∧ s6 = .int .i64 k ∧ (d.data.toList.take k).all isD = true) (fun s6 => ((d.size : Int) - intOf s6).toNat)
  case atStart => exact ⟨0, Nat.zero_le _, rfl, rfl⟩
  case round =>
    obtain ⟨k, hk, rfl, hall⟩ := hrel
    by_cases hlt : k < d.size
    · have hki : (k : Int) < (d.size : Int) := by omega
      have HALL := Lib.hid hall
      clear hall
      have HNX := Lib.hid (all_next (d := d.data.toList) (k := k) hlt)
      have HFA := Lib.hid (fun h : isD d[k] = false => all_false (d := d.data.toList) (k := k) hlt h)
      by_cases hlo : (d[k].toNat : Int) < 48
      · have hb : isD d[k] = false := by unfold isD; rw [decide_eq_false (by omega)]; rfl
        have HF := Lib.hid (HFA.out hb)
        clear hb
        go_wp2_with fail
        go_returns
        exact form_end HRD (rdD_bad HF.out) ⟨rfl, by repeat' (first | exact Plus.refl _ | refine Plus.alloc ?_ _ | refine Plus.plus ?_ _ | refine Plus.drew ?_ | refine Plus.drewN ?_ _)⟩
      · by_cases hhi : (57 : Int) < (d[k].toNat : Int)
        · have hb : isD d[k] = false := by unfold isD; rw [decide_eq_false (p := d[k].toNat ≤ 57) (by omega), Bool.and_false]
          have HF := Lib.hid (HFA.out hb)
          clear hb
          go_wp2_with fail
          go_returns
          exact form_end HRD (rdD_bad HF.out) ⟨rfl, by repeat' (first | exact Plus.refl _ | refine Plus.alloc ?_ _ | refine Plus.plus ?_ _ | refine Plus.drew ?_ | refine Plus.drewN ?_ _)⟩
        · have hb : isD d[k] = true := by unfold isD; rw [decide_eq_true (by omega), decide_eq_true (by omega)]; rfl
          have HG := Lib.hid hb
          clear hb
          go_wp2_with fail
          go_round
          case rel => exact ⟨k + 1, hlt, by rw [show ((k + 1 : Nat) : Int) = (k : Int) + 1 by omega], by rw [HNX.out, HALL.out]; exact HG.out⟩
          case measure => simp [intOf]; omega
    · obtain rfl : k = d.size := by omega
      have hA : d.data.toList.all isD = true := by
        rw [show d.data.toList.take d.size = d.data.toList from List.take_of_length_le (Nat.le_refl _)] at hall
        exact hall
      have HA := Lib.hid hA
      have HGD := Lib.hid (rdD_good HCN.out hA)
      clear hall hA
      go_upto_region 14 with fail
      go_loopw [7, 8] (PRel d.data.toList w) (fun _ s8 _ => ((d.size : Int) - intOf s8).toNat)
      case atStart => exact ⟨0, 0, none, 0, Nat.zero_le _, rfl, by rw [dig_zero]; rfl, rfl, Nat.pow_pos B_pos, by rw [dig_zero]; exact Nat.le_refl _, by decide, by rw [dig_zero]; exact Lim.nil, BoxO.new' rfl, by repeat' (first | exact Plus.refl _ | refine Plus.alloc ?_ _ | refine Plus.plus ?_ _ | refine Plus.drew ?_ | refine Plus.drewN ?_ _)⟩
      case round =>
        obtain ⟨k, V, A, c, hk, rfl, rfl, hV, hVB, hc1, hc2, hL, hB, hP⟩ := hrel
        have hk' : k ≤ d.size := hk
        have HL := Lib.hid hL
        have HB := Lib.hid hB
        have HP := Lib.hid hP
        have HLN : Hid ((dig V).length ≤ 8) := Lib.hid (dig_len_le hVB)
        have HVB := Lib.hid hVB
        obtain ⟨k0, k1, k2, k3⟩ := hB.cells
        haveI : Old w.heap.size wr := ⟨hB.lt⟩
        haveI : HasCell wr w.heap.size 0 := ⟨_, k0⟩
        haveI : HasCell wr w.heap.size 1 := ⟨_, k1⟩
        clear hL hB hP hVB
        by_cases hlt : k < d.size
        · have hki : (k : Int) < (d.size : Int) := by omega
          have hdg := all_of (d := d.data.toList) (k := k) hlt HA.out
          have HNM := Lib.hid (num_next (d := d.data.toList) (k := k) hlt)
          have hdd : 48 ≤ d[k].toNat ∧ d[k].toNat ≤ 57 := by
            have e : isD d[k] = true := hdg
            unfold isD at e
            simpa using e
          obtain ⟨x, ex⟩ : ∃ x, d[k].toNat - 48 = x := ⟨_, rfl⟩
          have hx9 : x ≤ 9 := by omega
          have HEX : Hid (d.data.toList[k].toNat - 48 = x) := Lib.hid ex
          have hw8 : IntKind.u8.wrap ((d[k].toNat : Int) - 48) = (x : Int) := by rw [show (d[k].toNat : Int) - 48 = (x : Int) by omega]; exact IntWalk.u8_in _ (by omega)
          have hsub : (d[k].toNat : Int) - 48 = (x : Int) := by omega
          have hx0 : (x : Int) ≤ 9 := by omega
          have hx1 : IntKind.u8.wrap (x : Int) = (x : Int) := IntWalk.u8_in _ (by omega)
          have hx2 : IntKind.u32.wrap (x : Int) = (x : Int) := IntWalk.u32_in _ (by omega)
          have HXB : Hid (x < B) := Lib.hid (by have := B_eq; omega)
          have HV := Lib.hid hV
          obtain ⟨ts, ets⟩ : ∃ ts, dig (val (dig V) * val [10]) = ts := ⟨_, rfl⟩
          obtain ⟨tx, etx⟩ : ∃ tx, dig (val [x]) = tx := ⟨_, rfl⟩
          obtain ⟨us, eus⟩ : ∃ us, dig (val ts + val tx) = us := ⟨_, rfl⟩
          have hvx : val [x] = x := by simp [val]
          have hVN : val ts + val tx = 10 * V + x := by rw [← ets, ← etx, val_dig, val_dig, val_dig, val_ten, hvx]; omega
          have hT9 : ts.length ≤ 9 := by
            rw [← ets, val_dig, val_ten]
            have h9 : V * 10 < B ^ 9 := by
              rw [Nat.pow_succ]
              exact Nat.mul_lt_mul_of_lt_of_le HVB.out (by decide) (by decide)
            exact dig_len_le h9
          have hX9 : tx.length ≤ 1 := by
            rw [← etx, hvx]
            exact dig_len_le (show x < B ^ 1 by rw [Nat.pow_one]; exact HXB.out)
          rw [hVN] at eus
          have ht := Lib.hid ets
          have htx := Lib.hid etx
          have hus := Lib.hid (show dig (val ts + val tx) = us by rw [hVN]; exact eus)
          have HUS := Lib.hid eus
          have HTL := Lib.hid hT9
          have HXL := Lib.hid hX9
          have HC1 := Lib.hid hc1
          have HC2 := Lib.hid hc2
          have HNV : Hid (num (d.data.toList.take (k + 1)) = 10 * V + x) := Lib.hid (by rw [HNM.out, HEX.out, HV.out])
          clear ets etx eus hvx hVN hT9 hX9 hdg hdd ex hV HNM HEX hc1 hc2
          go_upto_region 16 with fail
          by_cases hbig : B ^ 8 ≤ 10 * V + x
          · have hul : (8 : Int) < (us.length : Int) := by
              have : ¬ us.length ≤ 8 := by rw [← HUS.out]; exact fun q => Nat.not_lt.2 hbig (dig_long.1 q)
              omega
            have HBIG : Hid (rdD false d.data.toList = .long) := Lib.hid (by
              rw [HGD.out, if_pos]
              have h1 := num_ge (d.data.toList.take (k + 1)) (d.data.toList.drop (k + 1))
              rw [List.take_append_drop, HNV.out] at h1
              omega)
            clear hbig
            go_region_held3 (fun w' => w'.cell? ⟨w.heap.size, 0, none⟩ = some (.bool false)) (simp [go_sem, k0]) (first | (go_at_call 63; (with_reducible refine (rtimes_n _ _ (dig V) [10] ts _ _ _ _ ht _ (by first | exact HL.out | exact HL.out.plus (by repeat' (first | exact Plus.refl _ | refine Plus.alloc ?_ _ | refine Plus.plus ?_ _ | refine Plus.drew ?_ | refine Plus.drewN ?_ _)) | (have q := HL.out.plus (w' := _) (by repeat' (first | exact Plus.refl _ | refine Plus.alloc ?_ _ | refine Plus.plus ?_ _ | refine Plus.drew ?_ | refine Plus.drewN ?_ _)); exact q)) (by repeat' (first | (refine Lim.lit10 _ _ ?_; (simp [go_sem]; done)) | refine Lim.alloc ?_ _ | refine Lim.grow ?_ _ | refine Lim.drew ?_)) rfl (len1 _) (by have := HLN.out; omega) (le1k _)).mono ?_); rintro e w1 ⟨A3, c3, rfl, q1, q2, q3, ⟨x3, rfl⟩⟩; have HT := Lib.hid q3; have HT1 := Lib.hid q1; have HT2 := Lib.hid q2; clear q1 q2 q3) | (go_at_call 71; (with_reducible refine (rtrim_n _ [x] tx _ _ htx _ (by repeat' (first | (refine Lim.litx _ _ _ HXB.out ?_; (simp [go_sem]; done)) | refine Lim.alloc ?_ _ | refine Lim.grow ?_ _ | refine Lim.drew ?_)) (len1 _) (le1 _) le1c (le1m _)).mono ?_); rintro e w1 ⟨A4, c4, rfl, q1, q2, q3, ⟨x4, rfl⟩⟩; have HU := Lib.hid q3; have HU1 := Lib.hid q1; have HU2 := Lib.hid q2; clear q1 q2 q3) | (go_at_call 81; (with_reducible refine (rplus_n A3 A4 ts tx us _ _ _ _ hus _ (by have q := HT.out; (try simp only [plus_drew] at q); first | exact q | exact q.plus (by repeat' (first | exact Plus.refl _ | refine Plus.alloc ?_ _ | refine Plus.plus ?_ _ | refine Plus.drew ?_ | refine Plus.drewN ?_ _))) (by have q := HU.out; (try simp only [plus_drew] at q); first | exact q | exact q.plus (by repeat' (first | exact Plus.refl _ | refine Plus.alloc ?_ _ | refine Plus.plus ?_ _ | refine Plus.drew ?_ | refine Plus.drewN ?_ _))) rfl rfl (by have := HTL.out; omega) (by have := HXL.out; omega)).mono ?_); rintro e w1 ⟨A5, c5, rfl, q1, q2, q3, ⟨x5, rfl⟩⟩; have HN := Lib.hid q3; have HN1 := Lib.hid q1; have HN2 := Lib.hid q2; clear q1 q2 q3))
            all_goals
              go_wp2_with fail
              go_returns
              exact PRes.long (HRD.out.trans HBIG.out) ⟨rfl, by repeat' (first | exact HP.out | refine Plus.alloc ?_ _ | refine Plus.plus ?_ _ | (refine Plus.setCell ?_ (Nat.le_refl _) _) | refine Plus.drew ?_ | refine Plus.drewN ?_ _)⟩
          · have hul : ¬ (8 : Int) < (us.length : Int) := by
              have : us.length ≤ 8 := by rw [← HUS.out]; exact dig_len_le (by omega)
              omega
            have HBIG : Hid (10 * V + x < B ^ 8) := Lib.hid (by omega)
            clear hbig
            go_region_held3 (fun w' => w'.cell? ⟨w.heap.size, 0, none⟩ = some (.bool false)) (simp [go_sem, k0]) (first | (go_at_call 63; (with_reducible refine (rtimes_n _ _ (dig V) [10] ts _ _ _ _ ht _ (by first | exact HL.out | exact HL.out.plus (by repeat' (first | exact Plus.refl _ | refine Plus.alloc ?_ _ | refine Plus.plus ?_ _ | refine Plus.drew ?_ | refine Plus.drewN ?_ _)) | (have q := HL.out.plus (w' := _) (by repeat' (first | exact Plus.refl _ | refine Plus.alloc ?_ _ | refine Plus.plus ?_ _ | refine Plus.drew ?_ | refine Plus.drewN ?_ _)); exact q)) (by repeat' (first | (refine Lim.lit10 _ _ ?_; (simp [go_sem]; done)) | refine Lim.alloc ?_ _ | refine Lim.grow ?_ _ | refine Lim.drew ?_)) rfl (len1 _) (by have := HLN.out; omega) (le1k _)).mono ?_); rintro e w1 ⟨A3, c3, rfl, q1, q2, q3, ⟨x3, rfl⟩⟩; have HT := Lib.hid q3; have HT1 := Lib.hid q1; have HT2 := Lib.hid q2; clear q1 q2 q3) | (go_at_call 71; (with_reducible refine (rtrim_n _ [x] tx _ _ htx _ (by repeat' (first | (refine Lim.litx _ _ _ HXB.out ?_; (simp [go_sem]; done)) | refine Lim.alloc ?_ _ | refine Lim.grow ?_ _ | refine Lim.drew ?_)) (len1 _) (le1 _) le1c (le1m _)).mono ?_); rintro e w1 ⟨A4, c4, rfl, q1, q2, q3, ⟨x4, rfl⟩⟩; have HU := Lib.hid q3; have HU1 := Lib.hid q1; have HU2 := Lib.hid q2; clear q1 q2 q3) | (go_at_call 81; (with_reducible refine (rplus_n A3 A4 ts tx us _ _ _ _ hus _ (by have q := HT.out; (try simp only [plus_drew] at q); first | exact q | exact q.plus (by repeat' (first | exact Plus.refl _ | refine Plus.alloc ?_ _ | refine Plus.plus ?_ _ | refine Plus.drew ?_ | refine Plus.drewN ?_ _))) (by have q := HU.out; (try simp only [plus_drew] at q); first | exact q | exact q.plus (by repeat' (first | exact Plus.refl _ | refine Plus.alloc ?_ _ | refine Plus.plus ?_ _ | refine Plus.drew ?_ | refine Plus.drewN ?_ _))) rfl rfl (by have := HTL.out; omega) (by have := HXL.out; omega)).mono ?_); rintro e w1 ⟨A5, c5, rfl, q1, q2, q3, ⟨x5, rfl⟩⟩; have HN := Lib.hid q3; have HN1 := Lib.hid q1; have HN2 := Lib.hid q2; clear q1 q2 q3))
            all_goals
              go_wp2_with fail
              go_roundw
              case rel =>
                have q := HN.out
                (try simp only [plus_drew] at q)
                refine ⟨k + 1, 10 * V + x, A5, c5, hlt, by rw [show ((k + 1 : Nat) : Int) = (k : Int) + 1 by omega], by rw [HUS.out], HNV.out.symm, HBIG.out, by rw [HUS.out]; exact HN1.out, HN2.out, by rw [HUS.out]; exact q, by exact HB.out.plus' (by repeat' (first | exact Plus.refl _ | refine Plus.alloc ?_ _ | refine Plus.plus ?_ _ | refine Plus.drew ?_ | refine Plus.drewN ?_ _)), by repeat' (first | exact HP.out | refine Plus.alloc ?_ _ | refine Plus.plus ?_ _ | (refine Plus.setCell ?_ (Nat.le_refl _) _) | refine Plus.drew ?_ | refine Plus.drewN ?_ _)⟩
              case measure => simp [intOf]; omega
        · obtain rfl : k = d.size := by omega
          have hV2 : V = num d.data.toList := by rw [hV, show d.data.toList.take d.size = d.data.toList from List.take_of_length_le (Nat.le_refl _)]
          obtain ⟨z, ez⟩ : ∃ z : Int, (if false then -(num d.data.toList : Int) else num d.data.toList) = z := ⟨_, rfl⟩
          have hrd : rdD false d.data.toList = .is z := by rw [HGD.out, if_neg (by rw [← hV2]; exact Nat.not_le.2 HVB.out), ← ez]; (try rfl)
          have HRZ := Lib.hid (HRD.out.trans hrd)
          have hz1 : Hid (sgn false (val (dig V)) = z) := Lib.hid (by rw [val_dig, ← ez, ← hV2]; rfl)
          have hz2 : Hid (decide (z < 0) = decide (z < 0) ∧ dig z.natAbs = dig z.natAbs) := Lib.hid ⟨rfl, rfl⟩
          have HC1 := Lib.hid hc1
          have HC2 := Lib.hid hc2
          clear hV hV2 ez hrd hc1 hc2
          go_wp2_with (go_at_call 62; (with_reducible refine (rmade_n false (decide (z < 0)) A (dig V) (dig z.natAbs) _ c z hz1 hz2 _ (by first | exact HL.out | exact HL.out.plus (by repeat' (first | exact Plus.refl _ | refine Plus.alloc ?_ _ | refine Plus.plus ?_ _ | refine Plus.drew ?_ | refine Plus.drewN ?_ _)) | (have q := HL.out.plus (w' := _) (by repeat' (first | exact Plus.refl _ | refine Plus.alloc ?_ _ | refine Plus.plus ?_ _ | refine Plus.drew ?_ | refine Plus.drewN ?_ _)); exact q)) rfl HC1.out HC2.out (by have := HLN.out; omega)).mono ?_); rintro e w1 ⟨A6, c6, rfl, q1, q2, q3, ⟨x6, rfl⟩⟩; have HR := Lib.hid q3; have HR1 := Lib.hid q1; have HR2 := Lib.hid q2; clear q1 q2 q3)
          go_returns
          refine PRes.is HRZ.out ⟨A6, c6, rfl, HR1.out, HR2.out, ?_, ?_⟩
          · have q := HR.out
            (try simp only [plus_drew] at q)
            exact q.later (by repeat' (first | (refine Later.of_alt ?_; (repeat' (first | exact (Alt.sets _ HB.out).1 | exact Alt.refl _ | refine Alt.grow ?_ _ | refine Alt.drewL ?_ | refine Alt.drewR ?_ | refine Alt.box ?_ (isBox.mk _ _ _ _ _) (isBox.mk _ _ _ _ _) | refine Alt.alloc ?_ _)); done) | refine Later.alloc ?_ _ | refine Later.grow ?_ _ | refine Later.drew ?_))
          · repeat' (first | exact HP.out | refine Plus.alloc ?_ _ | refine Plus.plus ?_ _ | (refine Plus.setCell ?_ (Nat.le_refl _) _) | refine Plus.drew ?_ | refine Plus.drewN ?_ _)

set_option maxRecDepth 100000 in
set_option maxHeartbeats 16000000 in
theorem rparse_b (s d : ByteArray) (neg : Bool) (hs : s.size ≤ 300) (hneg : neg = false) (hd : d = s) (h0 : 0 < s.size) (h2 : ((s[0].toNat : Int) == 45) = false) (h3 : ((s[0].toNat : Int) == 48) = true) (h5 : ¬ 1 < (s.size : Int)) (h4 : s.toList.isEmpty = false) (HCN : Hid (Cnt neg d.data.toList)) (HRD : Hid (rd s.data.toList = rdD neg d.data.toList)) (w : World) :
    Calls Try.prog 47 #[.string s] w (PRes s.data.toList w) := by
  subst hneg hd
  go_enter Try.func47, Try.ntmps47
  go_upto_region 8 with fail
  go_loop [6] (fun s6 => ∃ k : Nat, k ≤ d.size ∧ s6 = .int .i64 k ∧ (d.data.toList.take k).all isD = true) (fun s6 => ((d.size : Int) - intOf s6).toNat)
  case atStart => exact ⟨0, Nat.zero_le _, rfl, rfl⟩
  case round =>
    obtain ⟨k, hk, rfl, hall⟩ := hrel
    by_cases hlt : k < d.size
    · have hki : (k : Int) < (d.size : Int) := by omega
      have HALL := Lib.hid hall
      clear hall
      have HNX := Lib.hid (all_next (d := d.data.toList) (k := k) hlt)
      have HFA := Lib.hid (fun h : isD d[k] = false => all_false (d := d.data.toList) (k := k) hlt h)
      by_cases hlo : (d[k].toNat : Int) < 48
      · have hb : isD d[k] = false := by unfold isD; rw [decide_eq_false (by omega)]; rfl
        have HF := Lib.hid (HFA.out hb)
        clear hb
        go_wp2_with fail
        go_returns
        exact form_end HRD (rdD_bad HF.out) ⟨rfl, by repeat' (first | exact Plus.refl _ | refine Plus.alloc ?_ _ | refine Plus.plus ?_ _ | refine Plus.drew ?_ | refine Plus.drewN ?_ _)⟩
      · by_cases hhi : (57 : Int) < (d[k].toNat : Int)
        · have hb : isD d[k] = false := by unfold isD; rw [decide_eq_false (p := d[k].toNat ≤ 57) (by omega), Bool.and_false]
          have HF := Lib.hid (HFA.out hb)
          clear hb
          go_wp2_with fail
          go_returns
          exact form_end HRD (rdD_bad HF.out) ⟨rfl, by repeat' (first | exact Plus.refl _ | refine Plus.alloc ?_ _ | refine Plus.plus ?_ _ | refine Plus.drew ?_ | refine Plus.drewN ?_ _)⟩
        · have hb : isD d[k] = true := by unfold isD; rw [decide_eq_true (by omega), decide_eq_true (by omega)]; rfl
          have HG := Lib.hid hb
          clear hb
          go_wp2_with fail
          go_round
          case rel => exact ⟨k + 1, hlt, by rw [show ((k + 1 : Nat) : Int) = (k : Int) + 1 by omega], by rw [HNX.out, HALL.out]; exact HG.out⟩
          case measure => simp [intOf]; omega
    · obtain rfl : k = d.size := by omega
      have hA : d.data.toList.all isD = true := by
        rw [show d.data.toList.take d.size = d.data.toList from List.take_of_length_le (Nat.le_refl _)] at hall
        exact hall
      have HA := Lib.hid hA
      have HGD := Lib.hid (rdD_good HCN.out hA)
      clear hall hA
      go_upto_region 14 with fail
      go_loopw [7, 8] (PRel d.data.toList w) (fun _ s8 _ => ((d.size : Int) - intOf s8).toNat)
      case atStart => exact ⟨0, 0, none, 0, Nat.zero_le _, rfl, by rw [dig_zero]; rfl, rfl, Nat.pow_pos B_pos, by rw [dig_zero]; exact Nat.le_refl _, by decide, by rw [dig_zero]; exact Lim.nil, BoxO.new' rfl, by repeat' (first | exact Plus.refl _ | refine Plus.alloc ?_ _ | refine Plus.plus ?_ _ | refine Plus.drew ?_ | refine Plus.drewN ?_ _)⟩
      case round =>
        obtain ⟨k, V, A, c, hk, rfl, rfl, hV, hVB, hc1, hc2, hL, hB, hP⟩ := hrel
        have hk' : k ≤ d.size := hk
        have HL := Lib.hid hL
        have HB := Lib.hid hB
        have HP := Lib.hid hP
        have HLN : Hid ((dig V).length ≤ 8) := Lib.hid (dig_len_le hVB)
        have HVB := Lib.hid hVB
        obtain ⟨k0, k1, k2, k3⟩ := hB.cells
        haveI : Old w.heap.size wr := ⟨hB.lt⟩
        haveI : HasCell wr w.heap.size 0 := ⟨_, k0⟩
        haveI : HasCell wr w.heap.size 1 := ⟨_, k1⟩
        clear hL hB hP hVB
        by_cases hlt : k < d.size
        · have hki : (k : Int) < (d.size : Int) := by omega
          have hdg := all_of (d := d.data.toList) (k := k) hlt HA.out
          have HNM := Lib.hid (num_next (d := d.data.toList) (k := k) hlt)
          have hdd : 48 ≤ d[k].toNat ∧ d[k].toNat ≤ 57 := by
            have e : isD d[k] = true := hdg
            unfold isD at e
            simpa using e
          obtain ⟨x, ex⟩ : ∃ x, d[k].toNat - 48 = x := ⟨_, rfl⟩
          have hx9 : x ≤ 9 := by omega
          have HEX : Hid (d.data.toList[k].toNat - 48 = x) := Lib.hid ex
          have hw8 : IntKind.u8.wrap ((d[k].toNat : Int) - 48) = (x : Int) := by rw [show (d[k].toNat : Int) - 48 = (x : Int) by omega]; exact IntWalk.u8_in _ (by omega)
          have hsub : (d[k].toNat : Int) - 48 = (x : Int) := by omega
          have hx0 : (x : Int) ≤ 9 := by omega
          have hx1 : IntKind.u8.wrap (x : Int) = (x : Int) := IntWalk.u8_in _ (by omega)
          have hx2 : IntKind.u32.wrap (x : Int) = (x : Int) := IntWalk.u32_in _ (by omega)
          have HXB : Hid (x < B) := Lib.hid (by have := B_eq; omega)
          have HV := Lib.hid hV
          obtain ⟨ts, ets⟩ : ∃ ts, dig (val (dig V) * val [10]) = ts := ⟨_, rfl⟩
          obtain ⟨tx, etx⟩ : ∃ tx, dig (val [x]) = tx := ⟨_, rfl⟩
          obtain ⟨us, eus⟩ : ∃ us, dig (val ts + val tx) = us := ⟨_, rfl⟩
          have hvx : val [x] = x := by simp [val]
          have hVN : val ts + val tx = 10 * V + x := by rw [← ets, ← etx, val_dig, val_dig, val_dig, val_ten, hvx]; omega
          have hT9 : ts.length ≤ 9 := by
            rw [← ets, val_dig, val_ten]
            have h9 : V * 10 < B ^ 9 := by
              rw [Nat.pow_succ]
              exact Nat.mul_lt_mul_of_lt_of_le HVB.out (by decide) (by decide)
            exact dig_len_le h9
          have hX9 : tx.length ≤ 1 := by
            rw [← etx, hvx]
            exact dig_len_le (show x < B ^ 1 by rw [Nat.pow_one]; exact HXB.out)
          rw [hVN] at eus
          have ht := Lib.hid ets
          have htx := Lib.hid etx
          have hus := Lib.hid (show dig (val ts + val tx) = us by rw [hVN]; exact eus)
          have HUS := Lib.hid eus
          have HTL := Lib.hid hT9
          have HXL := Lib.hid hX9
          have HC1 := Lib.hid hc1
          have HC2 := Lib.hid hc2
          have HNV : Hid (num (d.data.toList.take (k + 1)) = 10 * V + x) := Lib.hid (by rw [HNM.out, HEX.out, HV.out])
          clear ets etx eus hvx hVN hT9 hX9 hdg hdd ex hV HNM HEX hc1 hc2
          go_upto_region 16 with fail
          by_cases hbig : B ^ 8 ≤ 10 * V + x
          · have hul : (8 : Int) < (us.length : Int) := by
              have : ¬ us.length ≤ 8 := by rw [← HUS.out]; exact fun q => Nat.not_lt.2 hbig (dig_long.1 q)
              omega
            have HBIG : Hid (rdD false d.data.toList = .long) := Lib.hid (by
              rw [HGD.out, if_pos]
              have h1 := num_ge (d.data.toList.take (k + 1)) (d.data.toList.drop (k + 1))
              rw [List.take_append_drop, HNV.out] at h1
              omega)
            clear hbig
            go_region_held3 (fun w' => w'.cell? ⟨w.heap.size, 0, none⟩ = some (.bool false)) (simp [go_sem, k0]) (first | (go_at_call 63; (with_reducible refine (rtimes_n _ _ (dig V) [10] ts _ _ _ _ ht _ (by first | exact HL.out | exact HL.out.plus (by repeat' (first | exact Plus.refl _ | refine Plus.alloc ?_ _ | refine Plus.plus ?_ _ | refine Plus.drew ?_ | refine Plus.drewN ?_ _)) | (have q := HL.out.plus (w' := _) (by repeat' (first | exact Plus.refl _ | refine Plus.alloc ?_ _ | refine Plus.plus ?_ _ | refine Plus.drew ?_ | refine Plus.drewN ?_ _)); exact q)) (by repeat' (first | (refine Lim.lit10 _ _ ?_; (simp [go_sem]; done)) | refine Lim.alloc ?_ _ | refine Lim.grow ?_ _ | refine Lim.drew ?_)) rfl (len1 _) (by have := HLN.out; omega) (le1k _)).mono ?_); rintro e w1 ⟨A3, c3, rfl, q1, q2, q3, ⟨x3, rfl⟩⟩; have HT := Lib.hid q3; have HT1 := Lib.hid q1; have HT2 := Lib.hid q2; clear q1 q2 q3) | (go_at_call 71; (with_reducible refine (rtrim_n _ [x] tx _ _ htx _ (by repeat' (first | (refine Lim.litx _ _ _ HXB.out ?_; (simp [go_sem]; done)) | refine Lim.alloc ?_ _ | refine Lim.grow ?_ _ | refine Lim.drew ?_)) (len1 _) (le1 _) le1c (le1m _)).mono ?_); rintro e w1 ⟨A4, c4, rfl, q1, q2, q3, ⟨x4, rfl⟩⟩; have HU := Lib.hid q3; have HU1 := Lib.hid q1; have HU2 := Lib.hid q2; clear q1 q2 q3) | (go_at_call 81; (with_reducible refine (rplus_n A3 A4 ts tx us _ _ _ _ hus _ (by have q := HT.out; (try simp only [plus_drew] at q); first | exact q | exact q.plus (by repeat' (first | exact Plus.refl _ | refine Plus.alloc ?_ _ | refine Plus.plus ?_ _ | refine Plus.drew ?_ | refine Plus.drewN ?_ _))) (by have q := HU.out; (try simp only [plus_drew] at q); first | exact q | exact q.plus (by repeat' (first | exact Plus.refl _ | refine Plus.alloc ?_ _ | refine Plus.plus ?_ _ | refine Plus.drew ?_ | refine Plus.drewN ?_ _))) rfl rfl (by have := HTL.out; omega) (by have := HXL.out; omega)).mono ?_); rintro e w1 ⟨A5, c5, rfl, q1, q2, q3, ⟨x5, rfl⟩⟩; have HN := Lib.hid q3; have HN1 := Lib.hid q1; have HN2 := Lib.hid q2; clear q1 q2 q3))
            all_goals
              go_wp2_with fail
              go_returns
              exact PRes.long (HRD.out.trans HBIG.out) ⟨rfl, by repeat' (first | exact HP.out | refine Plus.alloc ?_ _ | refine Plus.plus ?_ _ | (refine Plus.setCell ?_ (Nat.le_refl _) _) | refine Plus.drew ?_ | refine Plus.drewN ?_ _)⟩
          · have hul : ¬ (8 : Int) < (us.length : Int) := by
              have : us.length ≤ 8 := by rw [← HUS.out]; exact dig_len_le (by omega)
              omega
            have HBIG : Hid (10 * V + x < B ^ 8) := Lib.hid (by omega)
            clear hbig
            go_region_held3 (fun w' => w'.cell? ⟨w.heap.size, 0, none⟩ = some (.bool false)) (simp [go_sem, k0]) (first | (go_at_call 63; (with_reducible refine (rtimes_n _ _ (dig V) [10] ts _ _ _ _ ht _ (by first | exact HL.out | exact HL.out.plus (by repeat' (first | exact Plus.refl _ | refine Plus.alloc ?_ _ | refine Plus.plus ?_ _ | refine Plus.drew ?_ | refine Plus.drewN ?_ _)) | (have q := HL.out.plus (w' := _) (by repeat' (first | exact Plus.refl _ | refine Plus.alloc ?_ _ | refine Plus.plus ?_ _ | refine Plus.drew ?_ | refine Plus.drewN ?_ _)); exact q)) (by repeat' (first | (refine Lim.lit10 _ _ ?_; (simp [go_sem]; done)) | refine Lim.alloc ?_ _ | refine Lim.grow ?_ _ | refine Lim.drew ?_)) rfl (len1 _) (by have := HLN.out; omega) (le1k _)).mono ?_); rintro e w1 ⟨A3, c3, rfl, q1, q2, q3, ⟨x3, rfl⟩⟩; have HT := Lib.hid q3; have HT1 := Lib.hid q1; have HT2 := Lib.hid q2; clear q1 q2 q3) | (go_at_call 71; (with_reducible refine (rtrim_n _ [x] tx _ _ htx _ (by repeat' (first | (refine Lim.litx _ _ _ HXB.out ?_; (simp [go_sem]; done)) | refine Lim.alloc ?_ _ | refine Lim.grow ?_ _ | refine Lim.drew ?_)) (len1 _) (le1 _) le1c (le1m _)).mono ?_); rintro e w1 ⟨A4, c4, rfl, q1, q2, q3, ⟨x4, rfl⟩⟩; have HU := Lib.hid q3; have HU1 := Lib.hid q1; have HU2 := Lib.hid q2; clear q1 q2 q3) | (go_at_call 81; (with_reducible refine (rplus_n A3 A4 ts tx us _ _ _ _ hus _ (by have q := HT.out; (try simp only [plus_drew] at q); first | exact q | exact q.plus (by repeat' (first | exact Plus.refl _ | refine Plus.alloc ?_ _ | refine Plus.plus ?_ _ | refine Plus.drew ?_ | refine Plus.drewN ?_ _))) (by have q := HU.out; (try simp only [plus_drew] at q); first | exact q | exact q.plus (by repeat' (first | exact Plus.refl _ | refine Plus.alloc ?_ _ | refine Plus.plus ?_ _ | refine Plus.drew ?_ | refine Plus.drewN ?_ _))) rfl rfl (by have := HTL.out; omega) (by have := HXL.out; omega)).mono ?_); rintro e w1 ⟨A5, c5, rfl, q1, q2, q3, ⟨x5, rfl⟩⟩; have HN := Lib.hid q3; have HN1 := Lib.hid q1; have HN2 := Lib.hid q2; clear q1 q2 q3))
            all_goals
              go_wp2_with fail
              go_roundw
              case rel =>
                have q := HN.out
                (try simp only [plus_drew] at q)
                refine ⟨k + 1, 10 * V + x, A5, c5, hlt, by rw [show ((k + 1 : Nat) : Int) = (k : Int) + 1 by omega], by rw [HUS.out], HNV.out.symm, HBIG.out, by rw [HUS.out]; exact HN1.out, HN2.out, by rw [HUS.out]; exact q, by exact HB.out.plus' (by repeat' (first | exact Plus.refl _ | refine Plus.alloc ?_ _ | refine Plus.plus ?_ _ | refine Plus.drew ?_ | refine Plus.drewN ?_ _)), by repeat' (first | exact HP.out | refine Plus.alloc ?_ _ | refine Plus.plus ?_ _ | (refine Plus.setCell ?_ (Nat.le_refl _) _) | refine Plus.drew ?_ | refine Plus.drewN ?_ _)⟩
              case measure => simp [intOf]; omega
        · obtain rfl : k = d.size := by omega
          have hV2 : V = num d.data.toList := by rw [hV, show d.data.toList.take d.size = d.data.toList from List.take_of_length_le (Nat.le_refl _)]
          obtain ⟨z, ez⟩ : ∃ z : Int, (if false then -(num d.data.toList : Int) else num d.data.toList) = z := ⟨_, rfl⟩
          have hrd : rdD false d.data.toList = .is z := by rw [HGD.out, if_neg (by rw [← hV2]; exact Nat.not_le.2 HVB.out), ← ez]; (try rfl)
          have HRZ := Lib.hid (HRD.out.trans hrd)
          have hz1 : Hid (sgn false (val (dig V)) = z) := Lib.hid (by rw [val_dig, ← ez, ← hV2]; rfl)
          have hz2 : Hid (decide (z < 0) = decide (z < 0) ∧ dig z.natAbs = dig z.natAbs) := Lib.hid ⟨rfl, rfl⟩
          have HC1 := Lib.hid hc1
          have HC2 := Lib.hid hc2
          clear hV hV2 ez hrd hc1 hc2
          go_wp2_with (go_at_call 62; (with_reducible refine (rmade_n false (decide (z < 0)) A (dig V) (dig z.natAbs) _ c z hz1 hz2 _ (by first | exact HL.out | exact HL.out.plus (by repeat' (first | exact Plus.refl _ | refine Plus.alloc ?_ _ | refine Plus.plus ?_ _ | refine Plus.drew ?_ | refine Plus.drewN ?_ _)) | (have q := HL.out.plus (w' := _) (by repeat' (first | exact Plus.refl _ | refine Plus.alloc ?_ _ | refine Plus.plus ?_ _ | refine Plus.drew ?_ | refine Plus.drewN ?_ _)); exact q)) rfl HC1.out HC2.out (by have := HLN.out; omega)).mono ?_); rintro e w1 ⟨A6, c6, rfl, q1, q2, q3, ⟨x6, rfl⟩⟩; have HR := Lib.hid q3; have HR1 := Lib.hid q1; have HR2 := Lib.hid q2; clear q1 q2 q3)
          go_returns
          refine PRes.is HRZ.out ⟨A6, c6, rfl, HR1.out, HR2.out, ?_, ?_⟩
          · have q := HR.out
            (try simp only [plus_drew] at q)
            exact q.later (by repeat' (first | (refine Later.of_alt ?_; (repeat' (first | exact (Alt.sets _ HB.out).1 | exact Alt.refl _ | refine Alt.grow ?_ _ | refine Alt.drewL ?_ | refine Alt.drewR ?_ | refine Alt.box ?_ (isBox.mk _ _ _ _ _) (isBox.mk _ _ _ _ _) | refine Alt.alloc ?_ _)); done) | refine Later.alloc ?_ _ | refine Later.grow ?_ _ | refine Later.drew ?_))
          · repeat' (first | exact HP.out | refine Plus.alloc ?_ _ | refine Plus.plus ?_ _ | (refine Plus.setCell ?_ (Nat.le_refl _) _) | refine Plus.drew ?_ | refine Plus.drewN ?_ _)

set_option maxRecDepth 100000 in
set_option maxHeartbeats 16000000 in
theorem rparse_c (s d : ByteArray) (neg : Bool) (hs : s.size ≤ 300) (hneg : neg = true) (hd : s.extract 1 s.size = d) (h0 : 0 < s.size) (h2 : ((s[0].toNat : Int) == 45) = true) (g0 : 0 < d.size) (hds : d.size ≤ 300) (h3 : ((d[0].toNat : Int) == 48) = false) (h4 : d.toList.isEmpty = false) (HCN : Hid (Cnt neg d.data.toList)) (HRD : Hid (rd s.data.toList = rdD neg d.data.toList)) (w : World) :
    Calls Try.prog 47 #[.string s] w (PRes s.data.toList w) := by
  subst hneg
  have h01 : (1 : Int) ≤ (s.size : Int) := by omega
  go_enter Try.func47, Try.ntmps47
  go_upto_region 8 with fail
  go_loop [6] (fun s6 => ∃ k : Nat, k ≤ d.size ∧ s6 = .int .i64 k ∧ (d.data.toList.take k).all isD = true) (fun s6 => ((d.size : Int) - intOf s6).toNat)
  case atStart => exact ⟨0, Nat.zero_le _, rfl, rfl⟩
  case round =>
    obtain ⟨k, hk, rfl, hall⟩ := hrel
    by_cases hlt : k < d.size
    · have hki : (k : Int) < (d.size : Int) := by omega
      have HALL := Lib.hid hall
      clear hall
      have HNX := Lib.hid (all_next (d := d.data.toList) (k := k) hlt)
      have HFA := Lib.hid (fun h : isD d[k] = false => all_false (d := d.data.toList) (k := k) hlt h)
      by_cases hlo : (d[k].toNat : Int) < 48
      · have hb : isD d[k] = false := by unfold isD; rw [decide_eq_false (by omega)]; rfl
        have HF := Lib.hid (HFA.out hb)
        clear hb
        go_wp2_with fail
        go_returns
        exact form_end HRD (rdD_bad HF.out) ⟨rfl, by repeat' (first | exact Plus.refl _ | refine Plus.alloc ?_ _ | refine Plus.plus ?_ _ | refine Plus.drew ?_ | refine Plus.drewN ?_ _)⟩
      · by_cases hhi : (57 : Int) < (d[k].toNat : Int)
        · have hb : isD d[k] = false := by unfold isD; rw [decide_eq_false (p := d[k].toNat ≤ 57) (by omega), Bool.and_false]
          have HF := Lib.hid (HFA.out hb)
          clear hb
          go_wp2_with fail
          go_returns
          exact form_end HRD (rdD_bad HF.out) ⟨rfl, by repeat' (first | exact Plus.refl _ | refine Plus.alloc ?_ _ | refine Plus.plus ?_ _ | refine Plus.drew ?_ | refine Plus.drewN ?_ _)⟩
        · have hb : isD d[k] = true := by unfold isD; rw [decide_eq_true (by omega), decide_eq_true (by omega)]; rfl
          have HG := Lib.hid hb
          clear hb
          go_wp2_with fail
          go_round
          case rel => exact ⟨k + 1, hlt, by rw [show ((k + 1 : Nat) : Int) = (k : Int) + 1 by omega], by rw [HNX.out, HALL.out]; exact HG.out⟩
          case measure => simp [intOf]; omega
    · obtain rfl : k = d.size := by omega
      have hA : d.data.toList.all isD = true := by
        rw [show d.data.toList.take d.size = d.data.toList from List.take_of_length_le (Nat.le_refl _)] at hall
        exact hall
      have HA := Lib.hid hA
      have HGD := Lib.hid (rdD_good HCN.out hA)
      clear hall hA
      go_upto_region 14 with fail
      go_loopw [7, 8] (PRel d.data.toList w) (fun _ s8 _ => ((d.size : Int) - intOf s8).toNat)
      case atStart => exact ⟨0, 0, none, 0, Nat.zero_le _, rfl, by rw [dig_zero]; rfl, rfl, Nat.pow_pos B_pos, by rw [dig_zero]; exact Nat.le_refl _, by decide, by rw [dig_zero]; exact Lim.nil, BoxO.new' rfl, by repeat' (first | exact Plus.refl _ | refine Plus.alloc ?_ _ | refine Plus.plus ?_ _ | refine Plus.drew ?_ | refine Plus.drewN ?_ _)⟩
      case round =>
        obtain ⟨k, V, A, c, hk, rfl, rfl, hV, hVB, hc1, hc2, hL, hB, hP⟩ := hrel
        have hk' : k ≤ d.size := hk
        have HL := Lib.hid hL
        have HB := Lib.hid hB
        have HP := Lib.hid hP
        have HLN : Hid ((dig V).length ≤ 8) := Lib.hid (dig_len_le hVB)
        have HVB := Lib.hid hVB
        obtain ⟨k0, k1, k2, k3⟩ := hB.cells
        haveI : Old w.heap.size wr := ⟨hB.lt⟩
        haveI : HasCell wr w.heap.size 0 := ⟨_, k0⟩
        haveI : HasCell wr w.heap.size 1 := ⟨_, k1⟩
        clear hL hB hP hVB
        by_cases hlt : k < d.size
        · have hki : (k : Int) < (d.size : Int) := by omega
          have hdg := all_of (d := d.data.toList) (k := k) hlt HA.out
          have HNM := Lib.hid (num_next (d := d.data.toList) (k := k) hlt)
          have hdd : 48 ≤ d[k].toNat ∧ d[k].toNat ≤ 57 := by
            have e : isD d[k] = true := hdg
            unfold isD at e
            simpa using e
          obtain ⟨x, ex⟩ : ∃ x, d[k].toNat - 48 = x := ⟨_, rfl⟩
          have hx9 : x ≤ 9 := by omega
          have HEX : Hid (d.data.toList[k].toNat - 48 = x) := Lib.hid ex
          have hw8 : IntKind.u8.wrap ((d[k].toNat : Int) - 48) = (x : Int) := by rw [show (d[k].toNat : Int) - 48 = (x : Int) by omega]; exact IntWalk.u8_in _ (by omega)
          have hsub : (d[k].toNat : Int) - 48 = (x : Int) := by omega
          have hx0 : (x : Int) ≤ 9 := by omega
          have hx1 : IntKind.u8.wrap (x : Int) = (x : Int) := IntWalk.u8_in _ (by omega)
          have hx2 : IntKind.u32.wrap (x : Int) = (x : Int) := IntWalk.u32_in _ (by omega)
          have HXB : Hid (x < B) := Lib.hid (by have := B_eq; omega)
          have HV := Lib.hid hV
          obtain ⟨ts, ets⟩ : ∃ ts, dig (val (dig V) * val [10]) = ts := ⟨_, rfl⟩
          obtain ⟨tx, etx⟩ : ∃ tx, dig (val [x]) = tx := ⟨_, rfl⟩
          obtain ⟨us, eus⟩ : ∃ us, dig (val ts + val tx) = us := ⟨_, rfl⟩
          have hvx : val [x] = x := by simp [val]
          have hVN : val ts + val tx = 10 * V + x := by rw [← ets, ← etx, val_dig, val_dig, val_dig, val_ten, hvx]; omega
          have hT9 : ts.length ≤ 9 := by
            rw [← ets, val_dig, val_ten]
            have h9 : V * 10 < B ^ 9 := by
              rw [Nat.pow_succ]
              exact Nat.mul_lt_mul_of_lt_of_le HVB.out (by decide) (by decide)
            exact dig_len_le h9
          have hX9 : tx.length ≤ 1 := by
            rw [← etx, hvx]
            exact dig_len_le (show x < B ^ 1 by rw [Nat.pow_one]; exact HXB.out)
          rw [hVN] at eus
          have ht := Lib.hid ets
          have htx := Lib.hid etx
          have hus := Lib.hid (show dig (val ts + val tx) = us by rw [hVN]; exact eus)
          have HUS := Lib.hid eus
          have HTL := Lib.hid hT9
          have HXL := Lib.hid hX9
          have HC1 := Lib.hid hc1
          have HC2 := Lib.hid hc2
          have HNV : Hid (num (d.data.toList.take (k + 1)) = 10 * V + x) := Lib.hid (by rw [HNM.out, HEX.out, HV.out])
          clear ets etx eus hvx hVN hT9 hX9 hdg hdd ex hV HNM HEX hc1 hc2
          go_upto_region 16 with fail
          by_cases hbig : B ^ 8 ≤ 10 * V + x
          · have hul : (8 : Int) < (us.length : Int) := by
              have : ¬ us.length ≤ 8 := by rw [← HUS.out]; exact fun q => Nat.not_lt.2 hbig (dig_long.1 q)
              omega
            have HBIG : Hid (rdD true d.data.toList = .long) := Lib.hid (by
              rw [HGD.out, if_pos]
              have h1 := num_ge (d.data.toList.take (k + 1)) (d.data.toList.drop (k + 1))
              rw [List.take_append_drop, HNV.out] at h1
              omega)
            clear hbig
            go_region_held3 (fun w' => w'.cell? ⟨w.heap.size, 0, none⟩ = some (.bool false)) (simp [go_sem, k0]) (first | (go_at_call 63; (with_reducible refine (rtimes_n _ _ (dig V) [10] ts _ _ _ _ ht _ (by first | exact HL.out | exact HL.out.plus (by repeat' (first | exact Plus.refl _ | refine Plus.alloc ?_ _ | refine Plus.plus ?_ _ | refine Plus.drew ?_ | refine Plus.drewN ?_ _)) | (have q := HL.out.plus (w' := _) (by repeat' (first | exact Plus.refl _ | refine Plus.alloc ?_ _ | refine Plus.plus ?_ _ | refine Plus.drew ?_ | refine Plus.drewN ?_ _)); exact q)) (by repeat' (first | (refine Lim.lit10 _ _ ?_; (simp [go_sem]; done)) | refine Lim.alloc ?_ _ | refine Lim.grow ?_ _ | refine Lim.drew ?_)) rfl (len1 _) (by have := HLN.out; omega) (le1k _)).mono ?_); rintro e w1 ⟨A3, c3, rfl, q1, q2, q3, ⟨x3, rfl⟩⟩; have HT := Lib.hid q3; have HT1 := Lib.hid q1; have HT2 := Lib.hid q2; clear q1 q2 q3) | (go_at_call 71; (with_reducible refine (rtrim_n _ [x] tx _ _ htx _ (by repeat' (first | (refine Lim.litx _ _ _ HXB.out ?_; (simp [go_sem]; done)) | refine Lim.alloc ?_ _ | refine Lim.grow ?_ _ | refine Lim.drew ?_)) (len1 _) (le1 _) le1c (le1m _)).mono ?_); rintro e w1 ⟨A4, c4, rfl, q1, q2, q3, ⟨x4, rfl⟩⟩; have HU := Lib.hid q3; have HU1 := Lib.hid q1; have HU2 := Lib.hid q2; clear q1 q2 q3) | (go_at_call 81; (with_reducible refine (rplus_n A3 A4 ts tx us _ _ _ _ hus _ (by have q := HT.out; (try simp only [plus_drew] at q); first | exact q | exact q.plus (by repeat' (first | exact Plus.refl _ | refine Plus.alloc ?_ _ | refine Plus.plus ?_ _ | refine Plus.drew ?_ | refine Plus.drewN ?_ _))) (by have q := HU.out; (try simp only [plus_drew] at q); first | exact q | exact q.plus (by repeat' (first | exact Plus.refl _ | refine Plus.alloc ?_ _ | refine Plus.plus ?_ _ | refine Plus.drew ?_ | refine Plus.drewN ?_ _))) rfl rfl (by have := HTL.out; omega) (by have := HXL.out; omega)).mono ?_); rintro e w1 ⟨A5, c5, rfl, q1, q2, q3, ⟨x5, rfl⟩⟩; have HN := Lib.hid q3; have HN1 := Lib.hid q1; have HN2 := Lib.hid q2; clear q1 q2 q3))
            all_goals
              go_wp2_with fail
              go_returns
              exact PRes.long (HRD.out.trans HBIG.out) ⟨rfl, by repeat' (first | exact HP.out | refine Plus.alloc ?_ _ | refine Plus.plus ?_ _ | (refine Plus.setCell ?_ (Nat.le_refl _) _) | refine Plus.drew ?_ | refine Plus.drewN ?_ _)⟩
          · have hul : ¬ (8 : Int) < (us.length : Int) := by
              have : us.length ≤ 8 := by rw [← HUS.out]; exact dig_len_le (by omega)
              omega
            have HBIG : Hid (10 * V + x < B ^ 8) := Lib.hid (by omega)
            clear hbig
            go_region_held3 (fun w' => w'.cell? ⟨w.heap.size, 0, none⟩ = some (.bool false)) (simp [go_sem, k0]) (first | (go_at_call 63; (with_reducible refine (rtimes_n _ _ (dig V) [10] ts _ _ _ _ ht _ (by first | exact HL.out | exact HL.out.plus (by repeat' (first | exact Plus.refl _ | refine Plus.alloc ?_ _ | refine Plus.plus ?_ _ | refine Plus.drew ?_ | refine Plus.drewN ?_ _)) | (have q := HL.out.plus (w' := _) (by repeat' (first | exact Plus.refl _ | refine Plus.alloc ?_ _ | refine Plus.plus ?_ _ | refine Plus.drew ?_ | refine Plus.drewN ?_ _)); exact q)) (by repeat' (first | (refine Lim.lit10 _ _ ?_; (simp [go_sem]; done)) | refine Lim.alloc ?_ _ | refine Lim.grow ?_ _ | refine Lim.drew ?_)) rfl (len1 _) (by have := HLN.out; omega) (le1k _)).mono ?_); rintro e w1 ⟨A3, c3, rfl, q1, q2, q3, ⟨x3, rfl⟩⟩; have HT := Lib.hid q3; have HT1 := Lib.hid q1; have HT2 := Lib.hid q2; clear q1 q2 q3) | (go_at_call 71; (with_reducible refine (rtrim_n _ [x] tx _ _ htx _ (by repeat' (first | (refine Lim.litx _ _ _ HXB.out ?_; (simp [go_sem]; done)) | refine Lim.alloc ?_ _ | refine Lim.grow ?_ _ | refine Lim.drew ?_)) (len1 _) (le1 _) le1c (le1m _)).mono ?_); rintro e w1 ⟨A4, c4, rfl, q1, q2, q3, ⟨x4, rfl⟩⟩; have HU := Lib.hid q3; have HU1 := Lib.hid q1; have HU2 := Lib.hid q2; clear q1 q2 q3) | (go_at_call 81; (with_reducible refine (rplus_n A3 A4 ts tx us _ _ _ _ hus _ (by have q := HT.out; (try simp only [plus_drew] at q); first | exact q | exact q.plus (by repeat' (first | exact Plus.refl _ | refine Plus.alloc ?_ _ | refine Plus.plus ?_ _ | refine Plus.drew ?_ | refine Plus.drewN ?_ _))) (by have q := HU.out; (try simp only [plus_drew] at q); first | exact q | exact q.plus (by repeat' (first | exact Plus.refl _ | refine Plus.alloc ?_ _ | refine Plus.plus ?_ _ | refine Plus.drew ?_ | refine Plus.drewN ?_ _))) rfl rfl (by have := HTL.out; omega) (by have := HXL.out; omega)).mono ?_); rintro e w1 ⟨A5, c5, rfl, q1, q2, q3, ⟨x5, rfl⟩⟩; have HN := Lib.hid q3; have HN1 := Lib.hid q1; have HN2 := Lib.hid q2; clear q1 q2 q3))
            all_goals
              go_wp2_with fail
              go_roundw
              case rel =>
                have q := HN.out
                (try simp only [plus_drew] at q)
                refine ⟨k + 1, 10 * V + x, A5, c5, hlt, by rw [show ((k + 1 : Nat) : Int) = (k : Int) + 1 by omega], by rw [HUS.out], HNV.out.symm, HBIG.out, by rw [HUS.out]; exact HN1.out, HN2.out, by rw [HUS.out]; exact q, by exact HB.out.plus' (by repeat' (first | exact Plus.refl _ | refine Plus.alloc ?_ _ | refine Plus.plus ?_ _ | refine Plus.drew ?_ | refine Plus.drewN ?_ _)), by repeat' (first | exact HP.out | refine Plus.alloc ?_ _ | refine Plus.plus ?_ _ | (refine Plus.setCell ?_ (Nat.le_refl _) _) | refine Plus.drew ?_ | refine Plus.drewN ?_ _)⟩
              case measure => simp [intOf]; omega
        · obtain rfl : k = d.size := by omega
          have hV2 : V = num d.data.toList := by rw [hV, show d.data.toList.take d.size = d.data.toList from List.take_of_length_le (Nat.le_refl _)]
          obtain ⟨z, ez⟩ : ∃ z : Int, (if true then -(num d.data.toList : Int) else num d.data.toList) = z := ⟨_, rfl⟩
          have hrd : rdD true d.data.toList = .is z := by rw [HGD.out, if_neg (by rw [← hV2]; exact Nat.not_le.2 HVB.out), ← ez]; (try rfl)
          have HRZ := Lib.hid (HRD.out.trans hrd)
          have hz1 : Hid (sgn true (val (dig V)) = z) := Lib.hid (by rw [val_dig, ← ez, ← hV2]; rfl)
          have hz2 : Hid (decide (z < 0) = decide (z < 0) ∧ dig z.natAbs = dig z.natAbs) := Lib.hid ⟨rfl, rfl⟩
          have HC1 := Lib.hid hc1
          have HC2 := Lib.hid hc2
          clear hV hV2 ez hrd hc1 hc2
          go_wp2_with (go_at_call 62; (with_reducible refine (rmade_n true (decide (z < 0)) A (dig V) (dig z.natAbs) _ c z hz1 hz2 _ (by first | exact HL.out | exact HL.out.plus (by repeat' (first | exact Plus.refl _ | refine Plus.alloc ?_ _ | refine Plus.plus ?_ _ | refine Plus.drew ?_ | refine Plus.drewN ?_ _)) | (have q := HL.out.plus (w' := _) (by repeat' (first | exact Plus.refl _ | refine Plus.alloc ?_ _ | refine Plus.plus ?_ _ | refine Plus.drew ?_ | refine Plus.drewN ?_ _)); exact q)) rfl HC1.out HC2.out (by have := HLN.out; omega)).mono ?_); rintro e w1 ⟨A6, c6, rfl, q1, q2, q3, ⟨x6, rfl⟩⟩; have HR := Lib.hid q3; have HR1 := Lib.hid q1; have HR2 := Lib.hid q2; clear q1 q2 q3)
          go_returns
          refine PRes.is HRZ.out ⟨A6, c6, rfl, HR1.out, HR2.out, ?_, ?_⟩
          · have q := HR.out
            (try simp only [plus_drew] at q)
            exact q.later (by repeat' (first | (refine Later.of_alt ?_; (repeat' (first | exact (Alt.sets _ HB.out).1 | exact Alt.refl _ | refine Alt.grow ?_ _ | refine Alt.drewL ?_ | refine Alt.drewR ?_ | refine Alt.box ?_ (isBox.mk _ _ _ _ _) (isBox.mk _ _ _ _ _) | refine Alt.alloc ?_ _)); done) | refine Later.alloc ?_ _ | refine Later.grow ?_ _ | refine Later.drew ?_))
          · repeat' (first | exact HP.out | refine Plus.alloc ?_ _ | refine Plus.plus ?_ _ | (refine Plus.setCell ?_ (Nat.le_refl _) _) | refine Plus.drew ?_ | refine Plus.drewN ?_ _)

set_option maxRecDepth 100000 in
set_option maxHeartbeats 16000000 in
theorem rparse_f1 (s d : ByteArray) (neg : Bool) (hs : s.size ≤ 300) (hneg : neg = false) (hd : d = s) (h0 : ¬ 0 < s.size) (h4 : s.toList.isEmpty = true) (HF : Hid (rdD neg d.data.toList = .form)) (HRD : Hid (rd s.data.toList = rdD neg d.data.toList)) (w : World) :
    Calls Try.prog 47 #[.string s] w (PRes s.data.toList w) := by
  subst hneg hd
  go_enter Try.func47, Try.ntmps47
  go_wp2_with fail
  all_goals
    go_returns
    exact form_end HRD HF.out ⟨rfl, by repeat' (first | exact Plus.refl _ | refine Plus.alloc ?_ _ | refine Plus.plus ?_ _ | refine Plus.drew ?_ | refine Plus.drewN ?_ _)⟩

set_option maxRecDepth 100000 in
set_option maxHeartbeats 16000000 in
theorem rparse_f2 (s d : ByteArray) (neg : Bool) (hs : s.size ≤ 300) (hneg : neg = false) (hd : d = s) (h0 : 0 < s.size) (h2 : ((s[0].toNat : Int) == 45) = false) (h3 : ((s[0].toNat : Int) == 48) = true) (h5 : 1 < (s.size : Int)) (h4 : s.toList.isEmpty = false) (HF : Hid (rdD neg d.data.toList = .form)) (HRD : Hid (rd s.data.toList = rdD neg d.data.toList)) (w : World) :
    Calls Try.prog 47 #[.string s] w (PRes s.data.toList w) := by
  subst hneg hd
  go_enter Try.func47, Try.ntmps47
  go_wp2_with fail
  all_goals
    go_returns
    exact form_end HRD HF.out ⟨rfl, by repeat' (first | exact Plus.refl _ | refine Plus.alloc ?_ _ | refine Plus.plus ?_ _ | refine Plus.drew ?_ | refine Plus.drewN ?_ _)⟩

set_option maxRecDepth 100000 in
set_option maxHeartbeats 16000000 in
theorem rparse_f3 (s d : ByteArray) (neg : Bool) (hs : s.size ≤ 300) (hneg : neg = true) (hd : s.extract 1 s.size = d) (h0 : 0 < s.size) (h2 : ((s[0].toNat : Int) == 45) = true) (h4 : d.toList.isEmpty = true) (HF : Hid (rdD neg d.data.toList = .form)) (HRD : Hid (rd s.data.toList = rdD neg d.data.toList)) (w : World) :
    Calls Try.prog 47 #[.string s] w (PRes s.data.toList w) := by
  subst hneg
  have h01 : (1 : Int) ≤ (s.size : Int) := by omega
  go_enter Try.func47, Try.ntmps47
  go_wp2_with fail
  all_goals
    go_returns
    exact form_end HRD HF.out ⟨rfl, by repeat' (first | exact Plus.refl _ | refine Plus.alloc ?_ _ | refine Plus.plus ?_ _ | refine Plus.drew ?_ | refine Plus.drewN ?_ _)⟩

set_option maxRecDepth 100000 in
set_option maxHeartbeats 16000000 in
theorem rparse_f4 (s d : ByteArray) (neg : Bool) (hs : s.size ≤ 300) (hneg : neg = true) (hd : s.extract 1 s.size = d) (h0 : 0 < s.size) (h2 : ((s[0].toNat : Int) == 45) = true) (g0 : 0 < d.size) (h3 : ((d[0].toNat : Int) == 48) = true) (h4 : d.toList.isEmpty = false) (HF : Hid (rdD neg d.data.toList = .form)) (HRD : Hid (rd s.data.toList = rdD neg d.data.toList)) (w : World) :
    Calls Try.prog 47 #[.string s] w (PRes s.data.toList w) := by
  subst hneg
  have h01 : (1 : Int) ≤ (s.size : Int) := by omega
  go_enter Try.func47, Try.ntmps47
  go_wp2_with fail
  all_goals
    go_returns
    exact form_end HRD HF.out ⟨rfl, by repeat' (first | exact Plus.refl _ | refine Plus.alloc ?_ _ | refine Plus.plus ?_ _ | refine Plus.drew ?_ | refine Plus.drewN ?_ _)⟩

theorem empty_is {s : ByteArray} (h : ¬ 0 < s.size) : s.toList.isEmpty = true := by
  rw [ByteArray.toList_eq]
  have : s.data.toList.length = 0 := by
    have e : s.data.toList.length = s.size := rfl
    omega
  rw [List.length_eq_zero_iff.1 this]
  rfl
theorem empty_no {s : ByteArray} (h : 0 < s.size) : s.toList.isEmpty = false := by
  rw [ByteArray.toList_eq]
  have e : s.data.toList.length = s.size := rfl
  cases hh : s.data.toList with
  | nil => rw [hh] at e; simp at e; omega
  | cons _ _ => rfl
theorem head_is {s : ByteArray} (h : 0 < s.size) : s.data.toList.head? = some s[0] := by
  have e : s.data.toList.length = s.size := rfl
  rw [List.head?_eq_getElem?, List.getElem?_eq_getElem (by omega)]
  rfl
theorem byte_eq (c : UInt8) (k : Nat) (hk : k < 256) : ((c.toNat : Int) == (k : Int)) = (c == UInt8.ofNat k) := by
  rw [Bool.eq_iff_iff, beq_iff_eq, beq_iff_eq]
  constructor
  · intro h
    apply UInt8.toNat_inj.1
    rw [UInt8.toNat_ofNat']
    omega
  · intro h
    rw [h, UInt8.toNat_ofNat']
    omega
theorem tail_is (s : ByteArray) : (s.extract 1 s.size).data.toList = s.data.toList.tail := by
  rw [ByteArray.data_extract, Array.toList_extract, List.extract_eq_take_drop]
  rw [List.take_of_length_le (by simp)]
  simp
theorem rparse_all (s : ByteArray) (hs : s.size ≤ 300) (w : World) : Calls Try.prog 47 #[.string s] w (PRes s.data.toList w) := by
  have hr := rd_is s.data.toList
  by_cases h0 : 0 < s.size
  · have hh := head_is h0
    have hne := empty_no h0
    have b45 := byte_eq s[0] 45 (by decide)
    have b48 := byte_eq s[0] 48 (by decide)
    rw [hh] at hr
    by_cases hm : s[0] = 45
    · have e1 : (some s[0] == some (45 : UInt8)) = true := by rw [hm]; rfl
      rw [e1, if_pos rfl] at hr
      have t2 : ((s[0].toNat : Int) == 45) = true := by rw [show ((45 : Int)) = ((45 : Nat) : Int) from rfl, b45, hm]; rfl
      obtain ⟨d, hd⟩ : ∃ d, s.extract 1 s.size = d := ⟨_, rfl⟩
      have hdt : s.data.toList.tail = d.data.toList := by rw [← hd]; exact (tail_is s).symm
      rw [hdt] at hr
      by_cases g0 : 0 < d.size
      · have gh := head_is g0
        have gne := empty_no g0
        have c48 := byte_eq d[0] 48 (by decide)
        by_cases hz : d[0] = 48
        · have t3 : ((d[0].toNat : Int) == 48) = true := by rw [show ((48 : Int)) = ((48 : Nat) : Int) from rfl, c48, hz]; rfl
          exact rparse_f4 s d true hs rfl hd h0 t2 g0 t3 gne (Lib.hid (rdD_nought (by rw [gh, hz]) (.inr rfl))) (Lib.hid hr) w
        · have t3 : ((d[0].toNat : Int) == 48) = false := by rw [show ((48 : Int)) = ((48 : Nat) : Int) from rfl, c48]; exact beq_eq_false_iff_ne.2 hz
          refine rparse_c s d true hs rfl hd h0 t2 g0 (by have e1 : d.data.toList.length = d.size := rfl; have e2 : s.data.toList.length = s.size := rfl; rw [← hdt, List.length_tail] at e1; omega) t3 gne (Lib.hid ⟨fun e => ?_, fun e => ?_⟩) (Lib.hid hr) w
          · rw [e] at gh; cases gh
          · rw [gh] at e
            injection e with e
            exact (hz e).elim
      · have hdn : d.data.toList = [] := by
          have e : d.data.toList.length = d.size := rfl
          exact List.length_eq_zero_iff.1 (by omega)
        exact rparse_f3 s d true hs rfl hd h0 t2 (empty_is g0) (Lib.hid (by rw [hdn]; exact rdD_nil _)) (Lib.hid hr) w
    · have e1 : (some s[0] == some (45 : UInt8)) = false := by simpa using hm
      rw [e1, if_neg (by decide)] at hr
      have t2 : ((s[0].toNat : Int) == 45) = false := by rw [show ((45 : Int)) = ((45 : Nat) : Int) from rfl, b45]; exact beq_eq_false_iff_ne.2 hm
      by_cases hz : s[0] = 48
      · have t3 : ((s[0].toNat : Int) == 48) = true := by rw [show ((48 : Int)) = ((48 : Nat) : Int) from rfl, b48, hz]; rfl
        have el : s.data.toList.length = s.size := rfl
        by_cases h1 : 1 < s.size
        · exact rparse_f2 s s false hs rfl rfl h0 t2 t3 (by omega) hne (Lib.hid (rdD_nought (by rw [hh, hz]) (.inl (by omega)))) (Lib.hid hr) w
        · refine rparse_b s s false hs rfl rfl h0 t2 t3 (by omega) hne (Lib.hid ⟨fun e => ?_, fun _ => ⟨by omega, rfl⟩⟩) (Lib.hid hr) w
          rw [e] at hh; cases hh
      · have t3 : ((s[0].toNat : Int) == 48) = false := by rw [show ((48 : Int)) = ((48 : Nat) : Int) from rfl, b48]; exact beq_eq_false_iff_ne.2 hz
        refine rparse_a s s false hs rfl rfl h0 t2 t3 hne (Lib.hid ⟨fun e => ?_, fun e => ?_⟩) (Lib.hid hr) w
        · rw [e] at hh; cases hh
        · rw [hh] at e
          injection e with e
          exact (hz e).elim
  · have hn : s.data.toList = [] := by
      have e : s.data.toList.length = s.size := rfl
      exact List.length_eq_zero_iff.1 (by omega)
    exact rparse_f1 s s false hs rfl rfl h0 (empty_is h0) (Lib.hid (by rw [hn]; exact rdD_nil _)) (Lib.hid (by rw [hn]; rfl)) w
theorem rparse_n {s : ByteArray} {r er : Int} {pb : Bool} {us : List Nat} (hr : Hid (ParN r er s pb us)) (hs : Hid (s.size ≤ 300)) (w : World) : Calls Try.prog 47 #[.string s] w fun e w' => ∃ (A1 : Option Addr) (c1 : Nat), e = .returned (.tuple #[.agg #[.bool pb, .slice A1 us.length c1], .int .i64 er]) ∧ Arg w' A1 us us.length c1 ∧ Plus w w' := by
  obtain ⟨h1, h2, h3, _⟩ := hr.out
  refine (rparse_all s hs.out w).mono fun e w' h => ?_
  have ⟨e1, e2, e3⟩ := h1
  unfold PRes at h
  unfold parI at h2
  unfold parE at h3
  cases hh : rd s.data.toList with
  | form =>
    rw [hh] at h h2 h3
    simp only at h h2 h3
    subst h2 h3
    have e4 : us = [] := by rw [← e2]; exact dig_zero
    have e5 : pb = false := by rw [← e1]; rfl
    subst e4 e5
    exact ⟨none, 0, h.1, h1.arg (by rw [e2]; exact Nat.le_refl _) (by omega) (by rw [e2]; exact Lim.nil), h.2⟩
  | long =>
    rw [hh] at h h2 h3
    simp only at h h2 h3
    subst h2 h3
    have e4 : us = [] := by rw [← e2]; exact dig_zero
    have e5 : pb = false := by rw [← e1]; rfl
    subst e4 e5
    exact ⟨none, 0, h.1, h1.arg (by rw [e2]; exact Nat.le_refl _) (by omega) (by rw [e2]; exact Lim.nil), h.2⟩
  | is z =>
    rw [hh] at h h2 h3
    simp only at h h2 h3
    subst h2 h3
    obtain ⟨A1, c1, q0, q1, q2, q3, q4⟩ := h
    rw [e1, e2] at q0
    exact ⟨A1, c1, q0, h1.arg q1 q2 q3, q4⟩
end Go.Proofs.Ythaokkmbghgopaa
