/- Contract: Text. -/
import Derived.Test.YthaokkmbghgopaaC21
import Derived.Test.YthaokkmbghgopaaC19
namespace Go.Proofs.Ythaokkmbghgopaa
open Go.RowKit


theorem info5 : (Try.prog.info? 5).map (fun i => (i.zero, i.size, i.bytes)) = some (some (.int .u8 0), 1, 1) := by kernel_rfl
def u8s (bs : List UInt8) : List Value := bs.map fun (c : UInt8) => .int .u8 (c.toNat : Int)
theorem u8s_snoc (bs : List UInt8) (c : UInt8) : u8s (bs ++ [c]) = u8s bs ++ [.int .u8 (c.toNat : Int)] := by simp [u8s]
theorem u8s_len (bs : List UInt8) : (u8s bs).length = bs.length := by simp [u8s]
theorem one_u8 (z : Int) : ∀ u ∈ [Value.int .u8 z], u.oneCell' = true := fun u h => by
  rw [List.mem_singleton] at h
  subst h
  rfl
theorem ownB_of {w : World} {b : Nat} {v : Value} {bs : List UInt8} (h : w.ownsRow b 5 1 v bs.length (u8s bs)) (h0 : 0 < bs.length) : ∃ g c, v = .slice (some ⟨g, 0, none⟩) bs.length c ∧ b ≤ g ∧ OwnB w g bs := by
  rcases h.2 with ⟨_, e⟩ | ⟨g, cap, cur, rfl, hb, hg, hl, hm, hs, ht⟩
  · omega
  · refine ⟨g, cap, rfl, hb, cur, 5, hg, fun j hj => ?_⟩
    have e : cur[j]? = cur.toList[j]? := by simp
    have e2 : (cur.toList.take (bs.length * 1))[j]? = cur.toList[j]? := by rw [List.getElem?_take, if_pos (by omega)]
    rw [e, ← e2, ht]
    unfold u8s
    rw [List.getElem?_map, List.getElem?_eq_getElem hj]
    rfl
theorem dec0_len (k : Nat) : ∀ n, n < 10 ^ k → (dec0 n).length ≤ k := by
  induction k with
  | zero => intro n h; have : n = 0 := by simpa using h
            subst this; rw [dec0_zero]; simp
  | succ k ih =>
    intro n h
    by_cases h0 : n = 0
    · subst h0; rw [dec0_zero]; simp
    · rw [dec0_pos h0, List.length_append]
      have := ih (n / 10) (by rw [Nat.pow_succ] at h; omega)
      simp; omega
theorem isZero_i (A : Option Addr) (xs : List Nat) (n c : Nat) (w : World) (h : Lim w A xs) (hn : n = xs.length) (hl : xs.length ≤ c) (hc : c ≤ 9223372036854775807) :
    Calls Try.prog 69 #[.slice A n c] w fun e w' => e = .returned (.bool (val xs == 0)) ∧ w = w' := by
  subst hn
  exact isZero_c A xs c w h hl hc
theorem shrink_i (g : Nat) (xs : List Nat) (n c q : Nat) (qi : Int) (w : World) (h : Own w g xs) (hn : n = xs.length) (hqi : qi = q) (hq : q < B) (q0 : 0 < q) (hl : xs.length ≤ 1048576) :
    Calls Try.prog 82 #[.slice (some ⟨g, 0, none⟩) n c, .int .u32 qi] w (Shrunk g xs q w) := by
  subst hn hqi
  exact shrink_c g xs c q w h hq q0 hl
theorem reverse_i (g n c : Nat) (bs : List UInt8) (w : World) (h : OwnB w g bs) (hn : n = bs.length) (hl : bs.length ≤ 1048576) :
    Calls Try.prog 83 #[.slice (some ⟨g, 0, none⟩) n c] w fun e w' => e = .returned (.tuple #[]) ∧ OwnB w' g bs.reverse ∧ w.grownBy w' (some g) := by
  subst hn
  exact reverse_c g c bs w h hl
/-- Digits that are done, behind those that are to come. -/
def TxtRel (M gl L cl : Nat) (w : World) (k : Nat) (s3 : Value) (wr : World) : Prop :=
  ∃ (m : Nat) (bs : List UInt8) (os : List Nat), m ≤ k ∧ dec0 m ++ bs.reverse = dec0 M ∧ wr.ownsRow w.heap.size 5 1 s3 bs.length (u8s bs) ∧ s3.ownBlock ≠ some gl ∧ Own wr gl os ∧ os.length = L ∧ val os = m ∧ L ≤ cl ∧ cl ≤ 9223372036854775807 ∧ w.heap.size ≤ gl ∧ Below w.heap.size w wr
theorem TxtRel.step {M gl L cl d : Nat} {m : Nat} {bs : List UInt8} {os : List Nat} {V wr w1 w2 : World} {v v1 : Value} {o : Obj} (h0 : m ≠ 0) (hd : m % 10 = d) (h1 : dec0 m ++ bs.reverse = dec0 M) (hw : wr.ownsRow V.heap.size 5 1 v bs.length (u8s bs)) (hne : v.ownBlock ≠ some gl)
    (hO : Own w1 gl os) (hl : os.length = L) (hv : val os = m / 10) (q1 : L ≤ cl) (q2 : cl ≤ 9223372036854775807) (hgl : V.heap.size ≤ gl) (hB : Below V.heap.size V wr) (hg1 : wr.grownBy w1 (some gl))
    (hw2 : w2.ownsRow V.heap.size 5 1 v1 (bs.length + 1) (u8s bs ++ [.int .u8 ((48 : Int) + (d : Nat))])) (hg2 : (w1.alloc o).grownBy w2 v.ownBlock) (hat : v1.ownBlock = v.ownBlock ∨ v1.ownBlock = some (w1.alloc o).heap.size) : TxtRel M gl L cl V (m / 10) v1 w2 := by
  have e1 : (48 : Int) + (d : Nat) = ((UInt8.ofNat (48 + d)).toNat : Int) := by
    have : d < 10 := by rw [← hd]; exact Nat.mod_lt _ (by decide)
    rw [digit_toNat this]; omega
  have hlt : gl < w1.heap.size := hO.lt
  refine ⟨m / 10, bs ++ [UInt8.ofNat (48 + d)], os, Nat.le_refl _, ?_, ?_, ?_, (hO.alloc o).grown hg2 (fun e => hne e.symm), hl, hv, q1, q2, hgl, ?_⟩
  · rw [← h1, dec0_pos h0, hd]
    simp
  · rw [u8s_snoc, ← e1, List.length_append]
    exact hw2
  · rcases hat with e | e
    · rw [e]; exact hne
    · rw [e]
      intro e2
      injection e2 with e2
      rw [World.size_alloc] at e2
      omega
  · have hB1 : Below V.heap.size V w1 := hB.grown hg1 hB.size (fun j e => by injection e with e; omega)
    exact (hB1.alloc hB1.size o).grown hg2 (by rw [World.size_alloc]; have := hB1.size; omega) (fun j e => (hw.lt j e).1)
theorem TxtRel.len {M m : Nat} {bs : List UInt8} (h : dec0 m ++ bs.reverse = dec0 M) (hM : M < B ^ 8) : bs.length ≤ 78 := by
  have h1 := congrArg List.length h
  rw [List.length_append, List.length_reverse] at h1
  have h2 := dec0_len 78 M (Nat.lt_of_lt_of_le hM (by decide))
  omega

set_option maxRecDepth 100000 in
set_option maxHeartbeats 8000000 in
theorem text_h (an pb : Bool) (A : Option Addr) (xs us : List Nat) (n c : Nat) (w : World) (ha : Hid (Arg w A xs n c))
    (h1 : Hid (decide (bigI an xs < 0) = pb ∧ dig (bigI an xs).natAbs = us)) (hu : us.length ≤ 8) (h0 : us.length ≠ 0) (T : List UInt8) (hT : Hid ((if pb then 45 :: dec0 (val us) else dec0 (val us)) = T)) (hM : Hid (val us < B ^ 8)) (hP : Hid (0 < val us)) :
    Calls Try.prog 48 #[.agg #[.bool an, .slice A n c]] w fun e w' => e = .returned (.string ⟨T.toArray⟩) ∧ Plus w w' := by
  obtain ⟨i0, hi, hz0, hz1, hz2⟩ := info_parts info5
  have hb0 : ((us.length : Int) == 0) = false := by simpa using h0
  have HI := Lib.hid (And.intro hi (And.intro hz0 (And.intro hz1 hz2)))
  clear hi hz0 hz1 hz2
  go_enter Try.func48, Try.ntmps48
  go_wp2_with (go_at_call 51; (with_reducible refine (valid_h h1 _ (ha.out.plus (by repeat' (first | exact Plus.refl _ | refine Plus.alloc ?_ _ | refine Plus.plus ?_ _ | refine Plus.drew ?_ | refine Plus.drewN ?_ _)))).mono ?_); rintro e w1 ⟨A1, c1, rfl, _, _, q3, ⟨x1, rfl⟩⟩; have Q3 := Lib.hid q3; clear q3)
  have Q4 := Lib.hid ((Q3.out.res (b' := pb) (a' := A1) (n' := us.length) (c' := c1)).alloc (.cells #[] 5))
  have hbox : (_root_.Go.Proofs.Ythaokkmbghgopaa.plus (w.alloc (.cells #[.bool pb, .slice A1 us.length c1] 24)) x1).cell? ⟨w.heap.size, 0, none⟩ = some (.bool pb) := by simp [go_sem]
  have hpl : Plus w (_root_.Go.Proofs.Ythaokkmbghgopaa.plus (w.alloc (.cells #[.bool pb, .slice A1 us.length c1] 24)) x1) := by repeat' (first | exact Plus.refl _ | refine Plus.alloc ?_ _ | refine Plus.plus ?_ _ | refine Plus.drew ?_ | refine Plus.drewN ?_ _)
  have hsz : w.heap.size < (_root_.Go.Proofs.Ythaokkmbghgopaa.plus (w.alloc (.cells #[.bool pb, .slice A1 us.length c1] 24)) x1).heap.size := by rw [size_plus, World.size_alloc]; omega
  clear Q3
  obtain ⟨V, hV⟩ : ∃ V, _root_.Go.Proofs.Ythaokkmbghgopaa.plus (w.alloc (.cells #[.bool pb, .slice A1 us.length c1] 24)) x1 = V := ⟨_, rfl⟩
  rw [hV] at Q4 hbox hpl hsz ⊢
  have hg0 : w.heap.size + 1 + x1.blocks.length = V.heap.size := by rw [← hV, size_plus, World.size_alloc]
  rw [hg0]
  have HPL := Lib.hid hpl
  have HBX := Lib.hid hbox
  clear hV hg0 hpl hbox
  refine (clone_c _ us _ _ _ Q4.out rfl (by omega)).mono ?_
  rintro e w1 ⟨v, rfl, hown, hB1⟩
  obtain ⟨gl, cl, rfl, q1, q2, q3, q4⟩ := own_of_own Q4.out.1 hown (by omega)
  have hB2 : Below V.heap.size V w1 := ((Below.refl _ V).alloc (Nat.le_refl _) _).trans (hB1.mono (by rw [World.size_alloc]; omega))
  have hrow : w1.heap[V.heap.size]? = some (.cells #[] 5) := (hB1.block _ (by rw [World.size_alloc]; omega)).trans (heap_alloc_new V _)
  have hstart : TxtRel (val us) gl us.length cl V (val us) (.slice (some ⟨V.heap.size, 0, none⟩) 0 0) w1 :=
    ⟨val us, [], us, Nat.le_refl _, by simp, ⟨rfl, .inr ⟨V.heap.size, 0, #[], rfl, Nat.le_refl _, hrow, Nat.le_refl _, by unfold maxLen; omega, rfl, rfl⟩⟩, by
      rw [World.size_alloc] at q3
      simp [Value.ownBlock]; omega, q4, rfl, rfl, q1, q2, by rw [World.size_alloc] at q3; omega, hB2⟩
  have HST := Lib.hid hstart
  clear hown hB1 hB2 hrow hstart q1 q2 q3 q4
  go_wp2_with fail
  go_loopg [3] (val us) (TxtRel (val us) gl us.length cl V)
  case atStart => exact HST.out
  case round =>
    obtain ⟨m, bs, os, hm, hd, hown, hne, hO, hol, hov, q1, q2, hgl, hB⟩ := hrel
    have hbl := TxtRel.len hd hM.out
    obtain ⟨hi, hz0, hz1, hz2⟩ := HI.out
    by_cases h0 : m = 0
    · subst h0
      rw [dec0_zero, List.nil_append] at hd
      have hz : (val os == 0) = true := by rw [hov]; rfl
      have hbx : wr.cell? ⟨w.heap.size, 0, none⟩ = some (.bool pb) := (hB.cell (p := ⟨w.heap.size, 0, none⟩) hsz).trans HBX.out
      have hlen : 0 < bs.length := by
        rcases bs with _ | ⟨b0, bs⟩
        · have := hP.out
          unfold dec0 at hd
          rw [if_neg (by omega)] at hd
          exact absurd hd.symm (dec_ne_nil _)
        · simp
      have HZ := Lib.hid hz
      have HO := Lib.hid hO
      have HOL := Lib.hid hol
      have HD := Lib.hid hd
      have HW := Lib.hid hown
      have HBF0 := Lib.hid hB
      have hVs : V.heap.size ≤ wr.heap.size := hB.size
      clear hz hO hol hov hd hown hne
      cases pb
      · have HWF := HW
        have HLF : Hid (0 < bs.length ∧ bs.length ≤ 78) := Lib.hid ⟨hlen, hbl⟩
        have HBF := HBF0
        obtain ⟨g, c3, rfl, p1, p2⟩ := ownB_of HWF.out hlen
        have P2 := Lib.hid p2
        clear p2
        go_wp2_with (go_at_call 69; (with_reducible refine (isZero_i _ os _ _ _ HO.out.toLim HOL.out.symm (by rw [HOL.out]; exact q1) q2).mono ?_); rintro e w2 ⟨rfl, rfl⟩; rw [HZ.out])
        refine (reverse_i g _ c3 bs _ P2.out rfl (by omega)).mono ?_
        rintro e w4 ⟨rfl, p4, p5⟩
        have hcv := run_convert_bytes_back (P := Try.prog) w4 73 9 5 ⟨g, 0, none⟩ c3 _ Try.underlying73 Try.underlying5 Try.underlying9 (fun j hj => by rw [zero_add_addr]; exact p4.cell hj)
        rw [List.length_reverse] at hcv
        have HPW : Hid (Plus w w4) := Lib.hid (HPL.out.trans (Plus.of_below (HBF.out.grown p5 HBF.out.size (fun k e => by injection e with e; omega))))
        have HTT : Hid (bs.reverse = T) := Lib.hid (by rw [HD.out]; exact hT.out)
        clear p4 p5
        go_wp2_with fail
        go_ret
        exact ⟨by rw [← HTT.out]; rfl, HPW.out⟩
      · go_wp2_with (first | (go_at_call 69; (with_reducible refine (isZero_i _ os _ _ _ HO.out.toLim HOL.out.symm (by rw [HOL.out]; exact q1) q2).mono ?_); rintro e w2 ⟨rfl, rfl⟩; rw [HZ.out]) | (at_builtin; refine wpList_append_own_at _ rfl _ _ 73 rfl V.heap.size 5 i0 (.int .u8 0) 1 1 Try.underlying73 hi hz0 hz1 hz2 rfl (by decide) _ _ _ rfl (HW.out.alloc _) ⟨_, 0, none⟩ 1 1 [.int .u8 (45)] rfl rfl (news1 _ _ _) (one_u8 _) (by unfold maxLen; omega) (by omega) (by rw [World.size_alloc]; omega) ?_; intro v1 w3 hown3 hgr3 _ _; have HW3 := Lib.hid hown3; have HG3 := Lib.hid hgr3; clear hown3 hgr3))
        have hW4 : w3.ownsRow V.heap.size 5 1 v1 (bs ++ [45]).length (u8s (bs ++ [45])) := by
          rw [u8s_snoc, List.length_append]
          exact HW3.out
        have hB4 : Below V.heap.size V w3 := (HBF0.out.alloc hVs _).grown HG3.out (by rw [World.size_alloc]; omega) (fun j e => (HW.out.lt j e).1)
        have HB4 := Lib.hid hB4
        clear hB4
        obtain ⟨g, c3, rfl, p1, p2⟩ := ownB_of hW4 (by simp)
        have P2 := Lib.hid p2
        clear p2 hW4
        refine (reverse_i g _ c3 (bs ++ [45]) _ P2.out rfl (by simp; omega)).mono ?_
        rintro e w4 ⟨rfl, p4, p5⟩
        have hcv := run_convert_bytes_back (P := Try.prog) w4 73 9 5 ⟨g, 0, none⟩ c3 _ Try.underlying73 Try.underlying5 Try.underlying9 (fun j hj => by rw [zero_add_addr]; exact p4.cell hj)
        rw [List.length_reverse, (by simp : (bs ++ [45] : List UInt8).length = bs.length + 1)] at hcv
        have HPW : Hid (Plus w w4) := Lib.hid (HPL.out.trans (Plus.of_below (HB4.out.grown p5 HB4.out.size (fun k e => by injection e with e; omega))))
        have HTT : Hid ((bs ++ [45]).reverse = T) := Lib.hid (by rw [← hT.out, List.reverse_append, HD.out]; rfl)
        clear p4 p5
        go_wp2_with fail
        go_ret
        exact ⟨by rw [← HTT.out, List.reverse_append]; rfl, HPW.out⟩
    · have hz : (val os == 0) = false := by rw [hov]; simpa using h0
      have HZ := Lib.hid hz
      have HO := Lib.hid hO
      have HOL := Lib.hid hol
      have HOV := Lib.hid hov
      have HD := Lib.hid hd
      have HW := Lib.hid hown
      have HNE := Lib.hid hne
      have H0 := Lib.hid h0
      clear hz hO hol hov hd hown hne h0
      have hd10 : m % 10 < 10 := Nat.mod_lt _ (by decide)
      obtain ⟨d, hdd⟩ : ∃ d, m % 10 = d := ⟨_, rfl⟩
      rw [hdd] at hd10
      have HDD := Lib.hid hdd
      clear hdd
      have d1 : (d : Int) ≤ 9 := by omega
      clear hd10
      go_wp2_with fail
      refine (isZero_i _ os _ _ _ HO.out.toLim HOL.out.symm (by rw [HOL.out]; exact q1) q2).mono ?_
      rintro e w2 ⟨rfl, rfl⟩
      rw [HZ.out]
      go_wp2_with fail
      refine (shrink_i gl os _ _ 10 _ _ HO.out HOL.out.symm rfl (by decide) (by decide) (by have := HOL.out; omega)).mono ?_
      rintro e w2 ⟨os2, rfl, hO2, hv2, hl2, hg2⟩
      rw [HOV.out, HDD.out]
      have HO2 := Lib.hid hO2
      have HV2 : Hid (val os2 = m / 10) := Lib.hid (by rw [hv2, HOV.out])
      have HL2 : Hid (os2.length = us.length) := Lib.hid (by rw [hl2, HOL.out])
      have HG2 := Lib.hid hg2
      have HWK : Hid (w2.ownsRow V.heap.size 5 1 u3 bs.length (u8s bs)) := Lib.hid (HW.out.kept hg2 (.inr HNE.out))
      have hVs : V.heap.size ≤ w2.heap.size := Nat.le_trans hB.size hg2.size
      clear hO2 hv2 hl2 hg2
      go_wp2_with (at_builtin; refine wpList_append_own_at _ rfl _ _ 73 rfl V.heap.size 5 i0 (.int .u8 0) 1 1 Try.underlying73 hi hz0 hz1 hz2 rfl (by decide) _ _ _ rfl (HWK.out.alloc _) ⟨_, 0, none⟩ 1 1 [.int .u8 ((48 : Int) + (d : Nat))] rfl rfl (news1 _ _ _) (one_u8 _) (by unfold maxLen; omega) (by omega) (by rw [World.size_alloc]; omega) ?_; intro v1 w3 hown3 hgr3 _ hat3; have HW3 := Lib.hid hown3; have HG3 := Lib.hid hgr3; have HA3 := Lib.hid hat3; clear hown3 hgr3 hat3)
      go_roundg (m / 10)
      case rel => exact TxtRel.step H0.out HDD.out HD.out HW.out HNE.out HO2.out HL2.out HV2.out q1 q2 hgl hB HG2.out HW3.out HG3.out HA3.out
      case measure => have := H0.out; omega

theorem text_c {an : Bool} {A : Option Addr} {xs : List Nat} {n c : Nat} (w : World) (ha : Arg w A xs n c) :
    Calls Try.prog 48 #[.agg #[.bool an, .slice A n c]] w fun e w' => e = .returned (.string ⟨(txt (bigI an xs)).toArray⟩) ∧ Plus w w' := by
  by_cases h0 : bigI an xs = 0
  · have h1 : Hid (decide (bigI an xs < 0) = false ∧ dig (bigI an xs).natAbs = []) := Lib.hid (by rw [h0]; exact ⟨rfl, dig_zero⟩)
    have HA := Lib.hid ha
    have e : txt (bigI an xs) = [48] := by rw [h0]; exact dec_small (by decide)
    rw [e]
    clear ha h0 e
    go_enter Try.func48, Try.ntmps48
    go_wp2_with (go_at_call 51; (with_reducible refine (valid_h h1 _ (HA.out.plus (by repeat' (first | exact Plus.refl _ | refine Plus.alloc ?_ _ | refine Plus.plus ?_ _ | refine Plus.drew ?_ | refine Plus.drewN ?_ _)))).mono ?_); rintro e w1 ⟨A1, c1, rfl, _, _, q3, ⟨x1, rfl⟩⟩; rw [show ([] : List Nat).length = 0 from rfl])
    go_ret
    refine ⟨rfl, ?_⟩
    repeat' (first | exact Plus.refl _ | refine Plus.alloc ?_ _ | refine Plus.plus ?_ _ | refine Plus.drew ?_ | refine Plus.drewN ?_ _)
  · have hne : (bigI an xs).natAbs ≠ 0 := by omega
    have hab := bigI_abs (neg := an) ha.lim.1
    refine text_h an _ A xs _ n c w (Lib.hid ha) (Lib.hid ⟨rfl, rfl⟩) (dig_len_le hab) (dig_ne hne) _ (Lib.hid ?_) (Lib.hid (by rw [val_dig]; exact hab)) (Lib.hid (by rw [val_dig]; omega))
    rw [val_dig]
    unfold txt dec0
    rw [if_neg hne]
    by_cases hn : bigI an xs < 0
    · rw [if_pos (decide_eq_true hn), if_pos hn]
    · rw [if_neg (by simpa using hn), if_neg hn]
end Go.Proofs.Ythaokkmbghgopaa
